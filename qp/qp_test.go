package qp

import (
	"bytes"
	"fmt"
	"io"
	"math/rand"
	"mime/quotedprintable"
	"regexp"
	"slices"
	"strings"
	"testing"
	"time"

	"mailcoach/api"
)

// each goes through all texts of at most so many of some pieces.
func each(some []string, most int, try func(s string)) {
	var grow func(s string, more int)
	grow = func(s string, more int) {
		try(s)
		if more == 0 {
			return
		}
		for _, p := range some {
			grow(s+p, more-1)
		}
	}
	grow("", most)
}

// parts are what bytes, and coded ones, are made of or spoilt by.
var parts = []string{
	"a", "b", "z", "A", "F", "G", "0", "9", ":", "@", "!", "~", "\x7f", " ", " ", "\t", "=", "=", "\n", "\n", "\r", "\r\n", "\r\n", "=\r\n", "=\n", "=\r", " \n", "\t\r\n",
	"=3D", "=3d", "=20", "=0A", "=0d=0a", "=C3=A9", "=fF", "=4", "=G1", "=1g", "==", "= 4", "=\t\n", "\x00", "\x1f", "\x80", "\xff", "\xc3", "\u00e9", "\u00a0", "\u2028", "\uff1d",
	strings.Repeat("x", 10), strings.Repeat("y", 25), strings.Repeat(" ", 7), strings.Repeat("=", 12), strings.Repeat("\xff", 9),
}

// some are bytes by chance.
func some(source *rand.Rand, most int) string {
	var s strings.Builder
	for range source.Intn(most + 1) {
		s.WriteString(parts[source.Intn(len(parts))])
	}
	return s.String()
}

var (
	endBlank = regexp.MustCompile(`[ \t]$`)
	unplain  = regexp.MustCompile(`[^\t -<>-~]`)
	form     = regexp.MustCompile(`^(?:=\r\n|=[0-9A-Fa-f]{2}|\r\n|[\t -<>-~])*$`)
	pieces   = regexp.MustCompile(`=\r\n|=[0-9A-Fa-f]{2}|\r\n`)
)

// model is P12.1 from the other side: whole lines are coded, and then cut where a line ends at most, but not within a quoted byte.
func model(s string) string {
	quote := func(s string) string {
		var out string
		for _, c := range []byte(s) {
			out += fmt.Sprintf("=%02X", c)
		}
		return out
	}
	var coded []string
	for line := range strings.SplitSeq(s, "\n") {
		last := endBlank.FindString(line)
		line = unplain.ReplaceAllStringFunc(latin(line[:len(line)-len(last)]), func(s string) string { return quote(unlatin(s)) }) + quote(last)
		var cut string
		for len(line) > 75 {
			n := 75
			if i := strings.LastIndex(line[:n], "="); i > n-3 {
				n = i
			}
			cut += line[:n] + "=\r\n"
			line = line[n:]
		}
		coded = append(coded, cut+line)
	}
	return strings.Join(coded, "\r\n")
}

// latin has a sign for each byte, that patterns may go by signs; unlatin is what it was.
func latin(s string) string {
	var out []rune
	for _, c := range []byte(s) {
		out = append(out, rune(c))
	}
	return string(out)
}

func unlatin(s string) string {
	var out []byte
	for _, r := range s {
		out = append(out, byte(r))
	}
	return string(out)
}

// modelDecode is P12.2 by patterns.
func modelDecode(s string) (string, api.Errno) {
	if s = latin(s); !form.MatchString(s) {
		return "", api.ErrForm
	}
	return pieces.ReplaceAllStringFunc(s, func(p string) string {
		switch p {
		case "=\r\n":
			return ""
		case "\r\n":
			return "\n"
		}
		var c int
		fmt.Sscanf(p, "=%x", &c)
		return string([]byte{byte(c)})
	}), api.OK
}

// agrees says whether both calls answer what the models do, and P12.3 holds.
func agrees(t *testing.T, s string) {
	t.Helper()
	if got, want := string(Encode([]byte(s))), model(s); got != want {
		t.Fatalf("Encode(%q) = %q, want %q", s, got, want)
	}
	agreesDecoded(t, s)
	returns(t, s)
}

func agreesDecoded(t *testing.T, s string) {
	t.Helper()
	want, wrong := modelDecode(s)
	if got, e := Decode([]byte(s)); string(got) != want || e != wrong {
		t.Fatalf("Decode(%q) = %q, %d, want %q, %d", s, got, e, want, wrong)
	}
}

// returns is P12.3: what is coded is decoded, and the lines are of signs, blanks and tabs, 76 at most.
func returns(t *testing.T, s string) {
	t.Helper()
	coded := Encode([]byte(s))
	if got, e := Decode(coded); string(got) != s || e != api.OK {
		t.Fatalf("Encode(%q) = %q is decoded to %q, %d", s, coded, got, e)
	}
	for line := range strings.SplitSeq(string(coded), "\r\n") {
		if len(line) > 76 {
			t.Fatalf("Encode(%q) has a line of %d bytes", s, len(line))
		}
		for _, c := range []byte(line) {
			if c != 9 && (c < 32 || c > 126) {
				t.Fatalf("Encode(%q) = %q has a byte %d", s, coded, c)
			}
		}
		if strings.HasSuffix(line, " ") || strings.HasSuffix(line, "\t") {
			t.Fatalf("Encode(%q) = %q has a line with a blank at its end", s, coded)
		}
	}
}

// P12.1

func TestEncode(t *testing.T) {
	for s, want := range map[string]string{
		"": "", "a": "a", "é\n": "=C3=A9\r\n", "é": "=C3=A9", "Hello, world.\n": "Hello, world.\r\n", "a\nb\n": "a\r\nb\r\n", "\n": "\r\n", "\n\n": "\r\n\r\n", "\na": "\r\na",
		// what is plain, and what stands beside it
		"!": "!", "<": "<", ">": ">", "~": "~", "=": "=3D", "==": "=3D=3D", "=3D": "=3D3D", "a=b": "a=3Db", "\x7f": "=7F", "\x80": "=80", "\xff": "=FF", "\x00": "=00", "\x1f": "=1F", "\xab\xcd\xef": "=AB=CD=EF", "=\n": "=3D\r\n",
		// blanks
		" ": "=20", "\t": "=09", "  ": " =20", "\t\t": "\t=09", " \t": " =09", "a ": "a=20", " a": " a", "a b": "a b", "a\tb": "a\tb", "a b ": "a b=20", "a \nb": "a=20\r\nb", "a  \nb": "a =20\r\nb", "a\t\nb": "a=09\r\nb", "a\n b": "a\r\n b", " \n": "=20\r\n", "\n ": "\r\n=20", " \n ": "=20\r\n=20", " =": " =3D", "\t\xff": "\t=FF",
		// a 13 is as others are, and a blank ahead of one doesn't stand ahead of a line feed
		"\r": "=0D", "\r\n": "=0D\r\n", "a\r\nb": "a=0D\r\nb", "\n\r": "\r\n=0D", " \r\n": " =0D\r\n", "\t\r": "\t=0D", "=\r\n": "=3D=0D\r\n",
		"\v\f": "=0B=0C", "\u00a0": "=C2=A0", "\u2028": "=E2=80=A8", "\u0085": "=C2=85",
	} {
		if got := string(Encode([]byte(s))); got != want {
			t.Errorf("Encode(%q) = %q, want %q", s, got, want)
		}
		agrees(t, s)
	}
	if got := Encode(nil); len(got) != 0 {
		t.Errorf("Encode(nil) = %q", got)
	}
}

func TestLinesAreCut(t *testing.T) {
	x := func(n int) string { return strings.Repeat("x", n) }
	for s, want := range map[string]string{
		x(74): x(74), x(75): x(75), x(76): x(75) + "=\r\nx", x(150): x(75) + "=\r\n" + x(75), x(151): x(75) + "=\r\n" + x(75) + "=\r\nx",
		// by whole bytes alone, quoted or not
		x(72) + "=": x(72) + "=3D", x(73) + "=": x(73) + "=\r\n=3D", x(74) + "=": x(74) + "=\r\n=3D", x(75) + "=": x(75) + "=\r\n=3D", x(72) + "=y": x(72) + "=3D=\r\ny", x(71) + "=y": x(71) + "=3Dy", x(70) + "é": x(70) + "=C3=\r\n=A9", x(69) + "é": x(69) + "=C3=A9",
		strings.Repeat("\xff", 25): strings.Repeat("=FF", 25), strings.Repeat("\xff", 26): strings.Repeat("=FF", 25) + "=\r\n=FF", strings.Repeat("=", 51): strings.Repeat("=3D", 25) + "=\r\n" + strings.Repeat("=3D", 25) + "=\r\n=3D",
		// ahead of a line feed, which makes no line longer, and behind one
		x(75) + "\n": x(75) + "\r\n", x(75) + "\ny": x(75) + "\r\ny", x(76) + "\n": x(75) + "=\r\nx\r\n", x(40) + "\n" + x(75): x(40) + "\r\n" + x(75), x(40) + "\n" + x(76): x(40) + "\r\n" + x(75) + "=\r\nx", "\n" + x(76): "\r\n" + x(75) + "=\r\nx", x(75) + "\n\n" + x(75): x(75) + "\r\n\r\n" + x(75),
		// behind a cut, widths are counted anew
		x(73) + "=" + x(72): x(73) + "=\r\n=3D" + x(72), x(73) + "=" + x(73): x(73) + "=\r\n=3D" + x(72) + "=\r\nx",
		// blanks
		x(74) + " ": x(74) + "=\r\n=20", x(74) + " y": x(74) + " =\r\ny", x(72) + " ": x(72) + "=20", x(73) + " ": x(73) + "=\r\n=20", x(72) + " \n": x(72) + "=20\r\n", x(73) + "\t\n": x(73) + "=\r\n=09\r\n", x(75) + " y": x(75) + "=\r\n y", x(75) + " ": x(75) + "=\r\n=20", x(75) + "\ty": x(75) + "=\r\n\ty", x(74) + "  ": x(74) + " =\r\n=20", x(73) + " \r\n": x(73) + " =\r\n=0D\r\n",
		strings.Repeat(" ", 75): strings.Repeat(" ", 74) + "=\r\n=20", strings.Repeat(" ", 73): strings.Repeat(" ", 72) + "=20", strings.Repeat(" ", 76): strings.Repeat(" ", 75) + "=\r\n=20",
	} {
		if got := string(Encode([]byte(s))); got != want {
			t.Errorf("Encode(%q) = %q, want %q", s, got, want)
		}
		agrees(t, s)
	}
}

// Every byte, at every width about a line's end, with each kind of byte behind it.
func TestEncodeOfAllBytes(t *testing.T) {
	for c := range 256 {
		b := string([]byte{byte(c)})
		plain := c >= 33 && c <= 126 && c != 61
		quoted := fmt.Sprintf("=%02X", c)
		for _, x := range []struct{ behind, coded string }{{"", ""}, {"\n", "\r\n"}, {"z", "z"}, {"=", "=3D"}, {" z", " z"}, {"\r", "=0D"}} {
			want := quoted
			switch {
			case c == '\n':
				want = "\r\n"
			case plain, (c == ' ' || c == '\t') && x.behind != "" && x.behind != "\n":
				want = b
			}
			if got := string(Encode([]byte(b + x.behind))); got != want+x.coded {
				t.Errorf("Encode(%q) = %q, want %q", b+x.behind, got, want+x.coded)
			}
			for _, n := range []int{1, 2, 71, 72, 73, 74, 75, 76, 77, 147, 148, 149, 150, 151} {
				agrees(t, strings.Repeat("x", n)+b+x.behind)
				agrees(t, strings.Repeat("x", n)+b+b+x.behind)
			}
		}
	}
}

func TestEncodeOfAllShort(t *testing.T) {
	x := strings.Repeat("x", 35)
	for _, some := range [][]string{
		{"a", " ", "\t", "\n", "\r", "=", "é"},
		{x, x + "xxx", "=", " ", "\n", "\xff"},
		{x + x, "xx", "\t", "\r", "\n", "=="},
	} {
		each(some, 6, func(s string) { agrees(t, s) })
	}
}

// P12.2

func TestDecode(t *testing.T) {
	for s, want := range map[string]string{
		"": "", "a": "a", "=C3=A9\r\n": "é\n", "=c3=a9=\r\n": "é", "=c3=\r\n=A9": "é", "=3D": "=", "=3d": "=", "=3D3D": "=3D", "=0A": "\n", "=0d=0A": "\r\n", "=00=ff=Ff=fF": "\x00\xff\xff\xff", "=41": "A", "=61=7E": "a~", "=20=09": " \t",
		"a b": "a b", "a ": "a ", "\t": "\t", "a \r\n": "a \n", " \t ": " \t ", "!~": "!~", "<>": "<>", // a blank may end a line, too
		"\r\n": "\n", "\r\n\r\n": "\n\n", "a\r\nb": "a\nb", "=\r\n": "", "=\r\n=\r\n": "", "a=\r\nb": "ab", "=\r\n\r\n": "\n", "\r\n=\r\n": "\n", "a =\r\n b": "a  b",
		strings.Repeat("x", 1000): strings.Repeat("x", 1000), // nor is a line too long
	} {
		if got, e := Decode([]byte(s)); string(got) != want || e != api.OK {
			t.Errorf("Decode(%q) = %q, %d, want %q", s, got, e, want)
		}
		agreesDecoded(t, s)
	}
	if got, e := Decode(nil); len(got) != 0 || e != api.OK {
		t.Errorf("Decode(nil) = %q, %d", got, e)
	}
}

func TestDecodeOfAnotherForm(t *testing.T) {
	for _, s := range []string{
		"=", "=A", "=4", "==", "==41", "===", "=G1", "=1G", "=g1", "=1g", "=@1", "=1@", "=/1", "=1/", "=:1", "=1:", "=`1", "=1`", "= 41", "=4 1", "=-1", "=+1", "=0x", "=x1", "=\xff1", "=1\xe9", "=é", "=\uff11", "=4=41", "=4\r\n", "=4\n",
		"=\n", "=\r", "=\r=", "=\r\r\n", "= \r\n", "=\t\r\n", "=\n\r", "=41=", "=41=\r", "a=",
		"\n", "a\n", "\na", "\n\r", "\r", "\r\r\n", "\ra", "a\r", "\r=0A", "\r\n\n", "\r\n\r", "a\nb",
		"\x00", "\x08", "\v", "\f", "\x0e", "\x1f", "\x7f", "\x80", "\xff", "é", "\u00a0", "a\x00", "=41\x7f",
	} {
		for _, ahead := range []string{"", "a", "=41", "\r\n", "=\r\n", "\t "} {
			if got, e := Decode([]byte(ahead + s)); len(got) != 0 || e != api.ErrForm {
				t.Errorf("Decode(%q) = %q, %d", ahead+s, got, e)
			}
			agreesDecoded(t, ahead+s)
		}
	}
}

// Every byte alone, and every two behind a =.
func TestDecodeOfAllBytes(t *testing.T) {
	for c := range 256 {
		b := string([]byte{byte(c)})
		got, e := Decode([]byte(b))
		if c == 9 || c >= 32 && c <= 126 && c != 61 {
			if string(got) != b || e != api.OK {
				t.Errorf("Decode(%q) = %q, %d", b, got, e)
			}
		} else if len(got) != 0 || e != api.ErrForm {
			t.Errorf("Decode(%q) = %q, %d", b, got, e)
		}
		for _, s := range []string{b + "\n", "\r" + b, "=" + b, "=" + b + "\n", "=\r" + b, "\r\n" + b, "=\r\n" + b} {
			agreesDecoded(t, s)
		}
		for d := range 256 {
			agreesDecoded(t, string([]byte{'=', byte(c), byte(d)}))
		}
		for _, s := range []string{fmt.Sprintf("=%02X", c), fmt.Sprintf("=%02x", c)} {
			if got, e := Decode([]byte(s)); string(got) != b || e != api.OK {
				t.Errorf("Decode(%q) = %q, %d", s, got, e)
			}
		}
	}
}

func TestDecodeOfAllShort(t *testing.T) {
	for _, some := range [][]string{
		{"=", "\r", "\n", "4", "d", "F", "g"},
		{"=\r\n", "\r\n", "=", "A", "0", "\t", "\xff"},
	} {
		each(some, 6, func(s string) { agreesDecoded(t, s) })
	}
}

// Where one byte of a coded text is lost, or put in, or another one, it is decoded by what it is then.
func TestDecodeOfSpoilt(t *testing.T) {
	source := rand.New(rand.NewSource(121))
	for range 100000 {
		b := Encode([]byte(some(source, 8)))
		at := source.Intn(len(b) + 1)
		switch source.Intn(3) {
		case 0:
			b = b[:at]
		case 1:
			b = slices.Insert(b, at, parts[source.Intn(len(parts))][0])
		default:
			if at < len(b) {
				b = slices.Delete(b, at, at+1)
			}
		}
		agreesDecoded(t, string(b))
	}
}

// P12.3

func TestByChance(t *testing.T) {
	source := rand.New(rand.NewSource(122))
	for range 60000 {
		agrees(t, some(source, 14))
	}
	for range 1000 {
		agrees(t, some(source, 200))
	}
	for range 20000 {
		b := make([]byte, source.Intn(300))
		source.Read(b)
		agrees(t, string(b))
	}
}

// The library's own reader of such lines leaves their ends as they are.
func TestReadByTheLibrary(t *testing.T) {
	source := rand.New(rand.NewSource(123))
	for range 20000 {
		s := some(source, 30)
		got, err := io.ReadAll(quotedprintable.NewReader(bytes.NewReader(Encode([]byte(s)))))
		if want := strings.ReplaceAll(s, "\n", "\r\n"); string(got) != want || err != nil {
			t.Fatalf("%q is read as %q (%v)", s, got, err)
		}
	}
}

// A line is cut only where one more byte would not have fitted.
func TestCutLinesAreFull(t *testing.T) {
	source := rand.New(rand.NewSource(124))
	for range 20000 {
		lines := strings.Split(string(Encode([]byte(some(source, 60)))), "\r\n")
		for i, line := range lines[:len(lines)-1] {
			if !strings.HasSuffix(line, "=") {
				continue
			}
			next := 1
			if strings.HasPrefix(lines[i+1], "=") {
				next = 3
			}
			if len(line)-1+next <= 75 {
				t.Fatalf("%q is cut ahead of %q", line, lines[i+1])
			}
		}
	}
}

// R1, R3 and R5

func TestAskedAgain(t *testing.T) {
	source := rand.New(rand.NewSource(125))
	for range 20000 {
		b := []byte(some(source, 12))
		if source.Intn(2) == 0 {
			b = Encode(b)
		}
		was := bytes.Clone(b)
		b = append(b, "beyond"...)[:len(b)] // what lies behind the list isn't theirs either
		coded := Encode(b)
		decoded, e := Decode(b)
		kept, keptDecoded := bytes.Clone(coded), bytes.Clone(decoded)
		if !bytes.Equal(b, was) || string(b[len(b):len(b)+6]) != "beyond" {
			t.Fatalf("%q was changed to %q", was, b)
		}
		for _, l := range [][]byte{Encode(b), b} {
			for i := range l {
				l[i] = '#'
			}
		}
		if more, _ := Decode(was); len(more) > 0 {
			more[0]++
		}
		if !bytes.Equal(coded, kept) || !bytes.Equal(decoded, keptDecoded) {
			t.Fatalf("what was answered of %q was changed", was)
		}
		again, e2 := Decode(was)
		if !bytes.Equal(Encode(was), kept) || !bytes.Equal(again, keptDecoded) || e != e2 {
			t.Fatalf("%q is answered otherwise", was)
		}
	}
}

// Texts that are long take no longer than their length.
func TestLongTexts(t *testing.T) {
	const size = 1 << 22
	start := time.Now()
	for _, s := range []string{"x", "=", " ", "\t", "\n", "\r", "\r\n", "=\r\n", "=41", "\xff", "x\n", " \n", "=\n"} {
		long := []byte(strings.Repeat(s, size/len(s)))
		returns(t, string(long))
		Decode(long)
		Decode(append(long, '\n'))
	}
	if took := time.Since(start); took > time.Minute {
		t.Errorf("took %v", took)
	}
}
