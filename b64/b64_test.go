package b64

import (
	"bytes"
	"encoding/base64"
	"fmt"
	"math/big"
	"math/rand"
	"regexp"
	"slices"
	"strings"
	"testing"
	"time"

	"mailcoach/api"
)

const alphabet = "ABCDEFGHIJKLMNOPQRSTUVWXYZabcdefghijklmnopqrstuvwxyz0123456789+/"

// each goes through all texts of at most so many of some pieces.
func each(some []string, most int, try func(s string)) {
	var grow func(s string, more int)
	grow = func(s string, more int) {
		try(s)
		if more == 0 {
			return
		}
		for _, p := range some {
			grow(s+p, more-1)
		}
	}
	grow("", most)
}

// some are bytes by chance; about a line's end more often than elsewhere.
func some(source *rand.Rand) string {
	sizes := []int{0, 1, 2, 3, 4, 5, 6, 7, 55, 56, 57, 58, 59, 60, 113, 114, 115, 116, 170, 171, 172, 173, source.Intn(10), source.Intn(400)}
	b := make([]byte, sizes[source.Intn(len(sizes))])
	source.Read(b)
	if source.Intn(4) == 0 {
		for i := range b {
			b[i] = "\x00\xff\x01\x80a="[source.Intn(6)]
		}
	}
	return string(b)
}

// model is P13.1 by numbers: all bytes are one number, written to the base 64 from its end on.
func model(s string) string {
	lack := (3 - len(s)%3) % 3
	n := new(big.Int).SetBytes([]byte(s + strings.Repeat("\x00", lack)))
	var made string
	for range (len(s) + lack) / 3 * 4 {
		digit := new(big.Int)
		n.DivMod(n, big.NewInt(64), digit)
		made = string(alphabet[digit.Int64()]) + made
	}
	return made[:len(made)-lack] + strings.Repeat("=", lack)
}

var line = regexp.MustCompile(`.{1,76}`)

// modelLines is P13.3 by a pattern.
func modelLines(s string) string { return line.ReplaceAllString(model(s), "$0\r\n") }

// form is what signs may be: behind one byte four bits are none, behind two bytes two.
var form = regexp.MustCompile(`^(?:[A-Za-z0-9+/]{4})*(?:[A-Za-z0-9+/][AQgw]==|[A-Za-z0-9+/]{2}[AEIMQUYcgkosw048]=)?$`)

// lines is what lines may be: all but the last one are full.
var lines = regexp.MustCompile(`^(?:[A-Za-z0-9+/]{76}\r\n)*(?:[A-Za-z0-9+/=]{1,76}\r\n)?$`)

// modelBytes is P13.2 by a pattern, and sign by sign as bits.
func modelBytes(s string) (string, api.Errno) {
	if !form.MatchString(s) {
		return "", api.ErrForm
	}
	var bits string
	for _, c := range strings.TrimRight(s, "=") {
		bits += fmt.Sprintf("%06b", strings.IndexRune(alphabet, c))
	}
	var made []byte
	for ; len(bits) >= 8; bits = bits[8:] {
		var c byte
		fmt.Sscanf(bits[:8], "%b", &c)
		made = append(made, c)
	}
	return string(made), api.OK
}

// modelDecode is P13.3 by a pattern.
func modelDecode(s string) (string, api.Errno) {
	if !lines.MatchString(s) {
		return "", api.ErrForm
	}
	return modelBytes(strings.ReplaceAll(s, "\r\n", ""))
}

// agrees says whether Raw and Encode answer what the models do, and P13.4 holds.
func agrees(t *testing.T, s string) {
	t.Helper()
	if got, want := Raw([]byte(s)), model(s); got != want {
		t.Fatalf("Raw(%q) = %q, want %q", s, got, want)
	}
	if got, want := string(Encode([]byte(s))), modelLines(s); got != want {
		t.Fatalf("Encode(%q) = %q, want %q", s, got, want)
	}
	returns(t, s)
}

// agreesRead says whether Bytes and Decode answer what the models do.
func agreesRead(t *testing.T, s string) {
	t.Helper()
	want, wrong := modelBytes(s)
	if got, e := Bytes(s); string(got) != want || e != wrong {
		t.Fatalf("Bytes(%q) = %q, %d, want %q, %d", s, got, e, want, wrong)
	}
	want, wrong = modelDecode(s)
	if got, e := Decode([]byte(s)); string(got) != want || e != wrong {
		t.Fatalf("Decode(%q) = %q, %d, want %q, %d", s, got, e, want, wrong)
	}
}

// returns is P13.4, and that lines are what they may be.
func returns(t *testing.T, s string) {
	t.Helper()
	raw := Raw([]byte(s))
	if len(raw) != (len(s)+2)/3*4 {
		t.Fatalf("Raw of %d bytes has %d signs", len(s), len(raw))
	}
	if got, e := Bytes(raw); string(got) != s || e != api.OK {
		t.Fatalf("Raw(%.99q) = %.99q is read as %.99q, %d", s, raw, got, e)
	}
	coded := Encode([]byte(s))
	if got, e := Decode(coded); string(got) != s || e != api.OK {
		t.Fatalf("Encode(%.99q) = %.99q is decoded to %.99q, %d", s, coded, got, e)
	}
	if got := strings.ReplaceAll(string(coded), "\r\n", ""); got != raw {
		t.Fatalf("the signs of Encode(%.99q) are %.99q, want %.99q", s, got, raw)
	}
	whole := strings.Split(string(coded), "\r\n")
	last := len(whole) - 1
	if whole[last] != "" {
		t.Fatalf("Encode(%.99q) has no end", s)
	}
	for i, l := range whole[:last] {
		if len(l) == 0 || len(l) > 76 || i < last-1 && len(l) < 76 {
			t.Fatalf("Encode(%.99q) has a line of %d signs", s, len(l))
		}
	}
}

// P13.1

func TestRaw(t *testing.T) {
	for s, want := range map[string]string{
		"": "", "a": "YQ==", "ab": "YWI=", "abc": "YWJj", "abcd": "YWJjZA==", "abcde": "YWJjZGU=", "abcdef": "YWJjZGVm", "Hello, world.\n": "SGVsbG8sIHdvcmxkLgo=", "é": "w6k=", "€": "4oKs", "==": "PT0=",
		"\x00": "AA==", "\x00\x00": "AAA=", "\x00\x00\x00": "AAAA", "\x00\x00\x00\x00": "AAAAAA==", "\xff": "/w==", "\xff\xff": "//8=", "\xff\xff\xff": "////", "\xfb\xef\xbe": "++++", "\xfb": "+w==", "\xfb\xef": "++8=", "\x80": "gA==",
		"\x01": "AQ==", "\x00\x01": "AAE=", "\x00\x00\x01": "AAAB", "\x01\x00\x00": "AQAA", "\x00\x01\x00": "AAEA", "\x00\x10\x83": "ABCD", "a\x00": "YQA=", "a\x00\x00": "YQAA", "\r\n": "DQo=",
	} {
		if got := Raw([]byte(s)); got != want {
			t.Errorf("Raw(%q) = %q, want %q", s, got, want)
		}
		if got, e := Bytes(want); string(got) != s || e != api.OK {
			t.Errorf("Bytes(%q) = %q, %d, want %q", want, got, e, s)
		}
		agrees(t, s)
		agreesRead(t, want)
	}
	if got := Raw(nil); got != "" {
		t.Errorf("Raw(nil) = %q", got)
	}
}

// Each sign, at each of the four places.
func TestSigns(t *testing.T) {
	for i, sign := range []byte(alphabet) {
		for at := range 4 {
			n := i << (18 - 6*at)
			b := []byte{byte(n >> 16), byte(n >> 8), byte(n)}
			want := []byte("AAAA")
			want[at] = sign
			if got := Raw(b); got != string(want) {
				t.Errorf("Raw(%v) = %q, want %q", b, got, want)
			}
			if got, e := Bytes(string(want)); !bytes.Equal(got, b) || e != api.OK {
				t.Errorf("Bytes(%q) = %v, %d, want %v", want, got, e, b)
			}
		}
	}
	all, e := Bytes(alphabet)
	if len(all) != 48 || e != api.OK || Raw(all) != alphabet {
		t.Errorf("Bytes(%q) = %v, %d", alphabet, all, e)
	}
}

// All of one byte and of two, each behind nothing and behind others.
func TestRawOfAllPairs(t *testing.T) {
	for c := range 256 {
		for d := range 256 {
			for _, b := range [][]byte{{byte(c), byte(d)}, {'x', byte(c), byte(d)}, {'x', 'y', byte(c), byte(d)}} {
				want := base64.StdEncoding.EncodeToString(b)
				if got := Raw(b); got != want {
					t.Fatalf("Raw(%v) = %q, want %q", b, got, want)
				}
				if got, e := Bytes(want); !bytes.Equal(got, b) || e != api.OK {
					t.Fatalf("Bytes(%q) = %v, %d, want %v", want, got, e, b)
				}
			}
		}
		agrees(t, string([]byte{byte(c)}))
	}
}

// P13.2

func TestBytesOfAnotherForm(t *testing.T) {
	for _, s := range []string{
		// too few signs, or pads
		"Y", "YQ", "YQ=", "YWI", "YWJjZ", "YWJjZA", "YWJjZA=", "YWJjZGU", "A", "AA", "AAA", "AAAAA",
		// pads alone, too many, or elsewhere
		"=", "==", "===", "====", "Y=", "Y==", "Y===", "YQ===", "YQ====", "YWI==", "YWI=====", "YWJj=", "YWJj==", "YWJj===", "YWJj====", "=YWJ", "Y=WJ", "YQ=A", "YW=J", "==YQ", "=YQ=", "Y=Q=", "YQ==YQ==", "YWI=YWJj", "YQ==YWJj", "YWJjYQ==YWJj", "YQ==\x00",
		// bits that are left
		"YR==", "YS==", "YX==", "YY==", "YWJ=", "YWK=", "YWL=", "AB==", "AAB=", "AAC=", "//==", "///=", "/x==", "//9=", "YWJjZB==", "YWJjZGV=",
		// no signs
		"YW J", " YQ==", "YQ== ", "YQ==\n", "YQ==\r\n", "\r\nYQ==", "YQ\r\n==", "YWJj\r\nYWJj", "YWJj\r\n", "\r\n", " ", "-AAA", "_AAA", "AAA-", "AA_A", ".AAA", ",AAA", "@AAA", "[AAA", "`AAA", "{AAA", "AAA*", "AAA:", "AAA\x00", "\x00\x00\x00\x00", "AAA\x80", "AAA\xff", "AAA\xc1", "éAA", "ＡAA", "AAA\u0141", "%3D", "YQ%3D%3D",
	} {
		if got, e := Bytes(s); len(got) != 0 || e != api.ErrForm {
			t.Errorf("Bytes(%q) = %q, %d", s, got, e)
		}
		agreesRead(t, s)
		agreesRead(t, s+"\r\n")
		if got, e := Decode([]byte(s + "\r\n")); len(got) != 0 || e != api.ErrForm {
			t.Errorf("Decode(%q) = %q, %d", s+"\r\n", got, e)
		}
	}
}

// Every byte, at every place of four: one that is no sign is none anywhere, and a pad only at an end.
func TestBytesOfAllBytes(t *testing.T) {
	for c := range 256 {
		isSign := strings.IndexByte(alphabet, byte(c)) >= 0
		for _, s := range []string{"AAAA", "AA==", "AAA=", "ABCDEFGH", "ABCDEA==", "ABCDEFE="} {
			for at := range len(s) {
				b := []byte(s)
				b[at] = byte(c)
				agreesRead(t, string(b))
				agreesRead(t, string(b)+"\r\n")
				if _, e := Bytes(string(b)); !isSign && c != '=' && e != api.ErrForm {
					t.Errorf("Bytes(%q): %d", b, e)
				}
			}
			for at := range len(s) + 1 {
				agreesRead(t, s[:at]+string([]byte{byte(c)})+s[at:])
			}
		}
	}
}

// All of four signs and pads that end with what one or two bytes do.
func TestBytesOfAllEnds(t *testing.T) {
	count := 0
	for _, c := range alphabet {
		for _, d := range alphabet {
			for _, end := range []string{"==", "A=", "I=", "c=", "B=", "C=", "/="} {
				s := string(c) + string(d) + end
				agreesRead(t, s)
				if _, e := Bytes(s); e == api.OK {
					count++
				}
			}
		}
	}
	if want := 256 + 3*64*64; count != want { // each byte has one form
		t.Errorf("%d are read, want %d", count, want)
	}
}

func TestReadOfAllShort(t *testing.T) {
	full := strings.Repeat("abcd", 18)
	for _, some := range [][]string{
		{"A", "Q", "/", "=", "\n", "-"},
		{"A", "=", "\r", "\n", "E"},
		{"YWJj", "YQ==", "YWI=", "\r\n", "=", "A"},
		{full, "abcd", "Zg==", "\r\n", "\n"},
	} {
		each(some, 7, func(s string) { agreesRead(t, s) })
	}
}

// P13.3

func TestEncode(t *testing.T) {
	signs := func(n int) string { return strings.Repeat("YWFh", n/4) }
	for n, want := range map[int]string{
		0: "", 1: "YQ==\r\n", 2: "YWE=\r\n", 3: "YWFh\r\n", 4: "YWFhYQ==\r\n",
		54: signs(72) + "\r\n", 55: signs(72) + "YQ==\r\n", 56: signs(72) + "YWE=\r\n", 57: signs(76) + "\r\n",
		58: signs(76) + "\r\nYQ==\r\n", 59: signs(76) + "\r\nYWE=\r\n", 60: signs(76) + "\r\nYWFh\r\n",
		113: signs(76) + "\r\n" + signs(72) + "YWE=\r\n", 114: signs(76) + "\r\n" + signs(76) + "\r\n", 115: signs(76) + "\r\n" + signs(76) + "\r\nYQ==\r\n",
		171: strings.Repeat(signs(76)+"\r\n", 3), 172: strings.Repeat(signs(76)+"\r\n", 3) + "YQ==\r\n",
	} {
		s := strings.Repeat("a", n)
		if got := string(Encode([]byte(s))); got != want {
			t.Errorf("Encode of %d bytes = %q, want %q", n, got, want)
		}
		if got, e := Decode([]byte(want)); string(got) != s || e != api.OK {
			t.Errorf("Decode(%q) = %q, %d", want, got, e)
		}
	}
	if got := Encode(nil); len(got) != 0 {
		t.Errorf("Encode(nil) = %q", got)
	}
	if got, e := Decode(nil); len(got) != 0 || e != api.OK {
		t.Errorf("Decode(nil) = %q, %d", got, e)
	}
}

// Every length up to some lines, of bytes that are all others.
func TestEncodeOfAllLengths(t *testing.T) {
	var b []byte
	for i := range 600 {
		agrees(t, string(b))
		b = append(b, byte(i*7+i>>8))
	}
}

func TestDecodeOfAnotherForm(t *testing.T) {
	full := strings.Repeat("abcd", 19)
	for _, s := range []string{
		// ends that lack, are others, or are too many
		"YQ==", "YQ==\n", "YQ==\r", "YQ==\n\r", "YQ==\r\n\r\n", "YQ==\r\r\n", "YQ==\r\n\n", "YQ==\r\n\r", "YQ==\r\n ", "\r\nYQ==\r\n", "\r\nYQ==", "\r\n", "\r\n\r\n", "\n", "\r", " \r\n", "YQ== \r\n", " YQ==\r\n", "\tYQ==\r\n", "YWJj", full,
		// lines of other lengths
		"YWJj\r\nYWJj\r\n", "YWJj\r\nYQ==\r\n", "YQ\r\n==\r\n", "YQ=\r\n=\r\n", "Y\r\nQ==\r\n", "YWJ\r\nj\r\n", full + "YQ==\r\n", full + full + "\r\n", full + "\r\nYWJj\r\nYWJj\r\n", full[:72] + "\r\n" + full + "\r\n", full[:75] + "\r\n" + full[75:] + "YQ==\r\n", full + "a\r\n" + full[:75] + "\r\n", full[:75] + "\r\nd" + full[:75] + "\r\n",
		full + "\n" + full + "\r\n", full + "\r" + full + "\r\n", full + "\r\n\r\n" + full + "\r\n", full + "\r\n" + full, full + "\r\n" + full + "\n", full + "\r\n\r\n", full + "\r\n" + full[:4], "\r\n" + full + "\r\n", full + "\r\n \r\n",
		// signs that are none
		"YR==\r\n", "YWJ=\r\n", "Y===\r\n", "====\r\n", "=\r\n", "YQ\r\n", "YQ=\r\n", "YQ==YQ==\r\n", "YW J\r\n", "-AAA\r\n", "YQ==\r\nYQ==\r\n", full[:74] + "==\r\nYWJj\r\n", full[:73] + "A==\r\n" + full + "\r\n", full + "\r\n====\r\n", full + "\r\n=\r\n", full + "\r\nYR==\r\n", full[:75] + "-\r\n", full[:75] + "\xff\r\n",
	} {
		if got, e := Decode([]byte(s)); len(got) != 0 || e != api.ErrForm {
			t.Errorf("Decode(%q) = %q, %d", s, got, e)
		}
		agreesRead(t, s)
	}
}

// Where one byte of coded ones is lost, or put in, or another one, they are read only if they are of the form yet.
func TestReadOfSpoilt(t *testing.T) {
	source := rand.New(rand.NewSource(131))
	const others = "\r\n== A/+-\x00\xffQgw"
	for range 60000 {
		s := []byte(some(source))
		b := []byte(Raw(s))
		if source.Intn(2) == 0 {
			b = Encode(s)
		}
		at := source.Intn(len(b) + 1)
		if source.Intn(2) == 0 {
			at = max(0, len(b)-source.Intn(6))
		}
		switch source.Intn(4) {
		case 0:
			b = b[:at]
		case 1:
			b = slices.Insert(b, at, others[source.Intn(len(others))])
		case 2:
			if at < len(b) {
				b[at] = others[source.Intn(len(others))]
			}
		default:
			if at < len(b) {
				b = slices.Delete(b, at, at+1)
			}
		}
		agreesRead(t, string(b))
	}
}

// P13.4

func TestByChance(t *testing.T) {
	source := rand.New(rand.NewSource(132))
	for range 20000 {
		agrees(t, some(source))
	}
}

// What is read is what would be written so, whatever is read.
func TestReadIsWritten(t *testing.T) {
	source := rand.New(rand.NewSource(133))
	read := 0
	for range 200000 {
		var b []byte
		for range source.Intn(9) {
			b = append(b, "AQgw/+E==\n"[source.Intn(10)])
		}
		if got, e := Bytes(string(b)); e == api.OK {
			read++
			if Raw(got) != string(b) {
				t.Fatalf("Bytes(%q) = %q, which is written as %q", b, got, Raw(got))
			}
		}
		b = append(b, "\r\n"...)
		if got, e := Decode(b); e == api.OK && !bytes.Equal(Encode(got), b) {
			t.Fatalf("Decode(%q) = %q, which is written as %q", b, got, Encode(got))
		}
	}
	if read < 1000 {
		t.Errorf("only %d were read", read)
	}
}

// The library's own codes are the same ones; strict, it takes no bits that are left, but line ends anywhere.
func TestTheLibrary(t *testing.T) {
	source := rand.New(rand.NewSource(134))
	strict := base64.StdEncoding.Strict()
	for range 50000 {
		s := some(source)
		if got, want := Raw([]byte(s)), strict.EncodeToString([]byte(s)); got != want {
			t.Fatalf("Raw(%q) = %q, want %q", s, got, want)
		}
		b := []byte(Raw([]byte(s)))
		if len(b) > 0 {
			b[source.Intn(len(b))] = "AQgw=-/B"[source.Intn(8)]
		}
		want, err := strict.DecodeString(string(b))
		got, e := Bytes(string(b))
		if (err == nil) != (e == api.OK) || err == nil && !bytes.Equal(got, want) {
			t.Fatalf("Bytes(%q) = %q, %d, want %q, %v", b, got, e, want, err)
		}
	}
}

// R1, R3 and R5

func TestAskedAgain(t *testing.T) {
	source := rand.New(rand.NewSource(135))
	for range 20000 {
		b := []byte(some(source))
		if source.Intn(2) == 0 {
			b = Encode(b)
		}
		was := bytes.Clone(b)
		b = append(b, "beyond"...)[:len(b)] // what lies behind the list isn't theirs either
		raw, coded := Raw(b), Encode(b)
		decoded, e := Decode(b)
		plain, _ := Bytes(raw)
		keptRaw, kept, keptDecoded := strings.Clone(raw), bytes.Clone(coded), bytes.Clone(decoded)
		if !bytes.Equal(b, was) || string(b[len(b):len(b)+6]) != "beyond" {
			t.Fatalf("%q was changed to %q", was, b[:len(b)+6])
		}
		more, _ := Decode(was)
		again, _ := Bytes(raw)
		for _, l := range [][]byte{Encode(b), b, more, again} {
			for i := range l {
				l[i] = '#'
			}
		}
		if raw != keptRaw || !bytes.Equal(coded, kept) || !bytes.Equal(decoded, keptDecoded) || !bytes.Equal(plain, was) {
			t.Fatalf("what was answered of %q was changed", was)
		}
		second, e2 := Decode(was)
		if Raw(was) != keptRaw || !bytes.Equal(Encode(was), kept) || !bytes.Equal(second, keptDecoded) || e != e2 {
			t.Fatalf("%q is answered otherwise", was)
		}
	}
}

// A list within a greater one, of which nothing else may be touched.
func TestWithinAnother(t *testing.T) {
	b := []byte("aaaaaaaaaaaaaaaaaaaaaaaa")
	was := bytes.Clone(b)
	for i := range b {
		for j := i; j <= len(b); j++ {
			if got, want := Raw(b[i:j]), model(string(b[i:j])); got != want {
				t.Fatalf("Raw of %d bytes = %q, want %q", j-i, got, want)
			}
			Encode(b[i:j])
			Decode(b[i:j])
			if !bytes.Equal(b, was) {
				t.Fatalf("of %d to %d: %q was changed to %q", i, j, was, b)
			}
		}
	}
}

// Texts that are long take no longer than their length.
func TestLongTexts(t *testing.T) {
	const size = 1 << 20
	start := time.Now()
	for _, s := range []string{"x", "=", "\x00", "\n", "\r\n", "A=", "YQ==", "YWJj", strings.Repeat("abcd", 19) + "\r\n"} {
		long := strings.Repeat(s, size/len(s))
		returns(t, long)
		Bytes(long)
		Decode([]byte(long))
		Decode([]byte(long + "\r\n"))
	}
	if took := time.Since(start); took > time.Minute {
		t.Errorf("took %v", took)
	}
}
