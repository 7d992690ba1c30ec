package ent

import (
	"bytes"
	"math"
	"math/rand"
	"strconv"
	"strings"
	"testing"
	"time"
	"unicode/utf8"

	"mailcoach/api"
)

// wild holds numbers that no call should be undone by.
var wild = []int{math.MinInt, math.MinInt + 1, -1 << 62, -1 << 32, -1<<32 + 65, -1114111, -65, -1, 1114112, 1 << 21, 1<<31 - 1, 1 << 31, 1<<32 - 1, 1 << 32, 1<<32 + 65, 1 << 62, math.MaxInt - 1, math.MaxInt}

// odd holds texts of bytes that are no runes, and of runes that look like something else.
var odd = []string{"\x80", "\xff", "\xc3", "\xe2\x82", "\xf0\x9f\x98", "\xc0\xa0", "\xed\xa0\x80", "\xf4\x90\x80\x80", "\x00", "\v", "\f", "\x1f", "\x7f", "\x85", "\xa0", "\u0085", "\u00a0", "\u0109", "\u010a", "\u010d", "\u0120", "\u0126", "\u013b", "\u013c", "\u2003", "\u2028", "\u3000", "\ufeff", "\ufffd", "\ufffe", "é", "€", "😀", "＆", "；"}

// each goes through all texts of at most so many bytes of an alphabet.
func each(alphabet string, most int, try func(s string)) {
	var grow func(s string)
	grow = func(s string) {
		try(s)
		if len(s) < most {
			for i := range len(alphabet) {
				grow(s + alphabet[i:i+1])
			}
		}
	}
	grow("")
}

// some is a text by chance, of pieces that entities may be made of, or spoilt by.
func some(source *rand.Rand, most int) string {
	pieces := []string{"&", "&", "&", ";", ";", "#", "#x", "&#", "&#x", "amp", "lt", "gt", "quot", "apos", "&amp;", "&lt;", "&#65;", "&#x41;", "0", "1", "9", "65", "A", "f", "G", "X", "<", ">", "\"", "'", " ", "\t", "\n", "\r", "+", "-", "_", "a", "b"}
	pieces = append(pieces, odd...)
	var text string
	for range source.Intn(most + 1) {
		text += pieces[source.Intn(len(pieces))]
	}
	return text
}

// has tells of a number what P7.1 says, read off once more.
func has(n int) bool {
	for _, r := range [][2]int{{9, 10}, {13, 13}, {32, 55295}, {57344, 65533}, {65536, 1114111}} {
		if n >= r[0] && n <= r[1] {
			return true
		}
	}
	return false
}

// written is a number by UTF-8, by the bits of its bytes.
func written(n int) string {
	switch {
	case n < 0x80:
		return string([]byte{byte(n)})
	case n < 0x800:
		return string([]byte{byte(0xc0 | n>>6), byte(0x80 | n&63)})
	case n < 0x10000:
		return string([]byte{byte(0xe0 | n>>12), byte(0x80 | n>>6&63), byte(0x80 | n&63)})
	}
	return string([]byte{byte(0xf0 | n>>18), byte(0x80 | n>>12&63), byte(0x80 | n>>6&63), byte(0x80 | n&63)})
}

// means is the sign of a body, byte by byte.
func means(body string) (string, bool) {
	switch body {
	case "amp":
		return "&", true
	case "lt":
		return "<", true
	case "gt":
		return ">", true
	case "quot":
		return "\"", true
	case "apos":
		return "'", true
	}
	digits, base := "0123456789", 10
	if strings.HasPrefix(body, "#x") {
		body, digits, base = body[1:], "0123456789abcdef", 16
	} else if !strings.HasPrefix(body, "#") {
		return "", false
	}
	if len(body) == 1 {
		return "", false
	}
	n := 0
	for i := 1; i < len(body); i++ {
		c := body[i]
		if c >= 'A' && c <= 'F' {
			c += 'a' - 'A'
		}
		d := strings.IndexByte(digits, c)
		if d < 0 {
			return "", false
		}
		n = n*base + d
	}
	if !has(n) {
		return "", false
	}
	return written(n), true
}

// model is P7.2 byte by byte: the text where what has no sign stays, and whether nothing did.
func model(s string) (string, bool) {
	var out []byte
	all := true
	for i := 0; i < len(s); {
		if s[i] != '&' {
			out = append(out, s[i])
			i++
			continue
		}
		end := i + 1
		for end < len(s) && s[end] != '&' && s[end] != ';' {
			end++
		}
		if size := end - i - 1; end < len(s) && s[end] == ';' && size >= 1 && size <= 10 {
			if sign, ok := means(s[i+1 : end]); ok {
				out = append(out, sign...)
				i = end + 1
				continue
			}
		}
		all = false
		out = append(out, '&')
		i++
	}
	return string(out), all
}

// holds checks both calls of a text against the model.
func holds(t *testing.T, s string) {
	t.Helper()
	want, all := model(s)
	if got := Loose(s); got != want {
		t.Fatalf("Loose(%q) is %q, not %q", s, got, want)
	}
	e := api.OK
	if !all {
		want, e = "", api.ErrForm
	}
	if got, is := Decode(s); got != want || is != e {
		t.Fatalf("Decode(%q) is %q, %d, not %q, %d", s, got, is, want, e)
	}
}

// P7.1

func TestRuneOfAllNumbers(t *testing.T) {
	for n := -70000; n <= 1200000; n++ {
		got, is := Rune(n)
		if is != has(n) {
			t.Fatal(n, is)
		}
		if want := written(n); is && (got != want || !utf8.ValidString(got) || got != string(rune(n))) || !is && got != "" {
			t.Fatalf("Rune(%d) is %q", n, got)
		}
	}
}

func TestRuneAtEdges(t *testing.T) {
	for _, x := range []struct {
		n    int
		want string
	}{
		{0, ""}, {8, ""}, {9, "\t"}, {10, "\n"}, {11, ""}, {12, ""}, {13, "\r"}, {14, ""}, {31, ""}, {32, " "},
		{38, "&"}, {126, "~"}, {127, "\x7f"}, {128, "\xc2\x80"}, {133, "\xc2\x85"}, {2047, "\xdf\xbf"}, {2048, "\xe0\xa0\x80"},
		{55295, "\xed\x9f\xbf"}, {55296, ""}, {56319, ""}, {56320, ""}, {57343, ""}, {57344, "\xee\x80\x80"},
		{65279, "\xef\xbb\xbf"}, {65533, "\xef\xbf\xbd"}, {65534, ""}, {65535, ""}, {65536, "\xf0\x90\x80\x80"},
		{131070, "\xf0\x9f\xbf\xbe"}, {1114111, "\xf4\x8f\xbf\xbf"}, {1114112, ""}, {-1, ""}, {-9, ""},
	} {
		if got, is := Rune(x.n); got != x.want || is != (x.want != "") {
			t.Errorf("Rune(%d) is %q, %v", x.n, got, is)
		}
	}
	for _, n := range wild {
		if got, is := Rune(n); got != "" || is {
			t.Errorf("Rune(%d) is %q, %v", n, got, is)
		}
	}
}

// P7.2

func TestDecode(t *testing.T) {
	for _, x := range []struct{ s, want string }{
		{"", ""}, {"a", "a"}, {"a;b", "a;b"}, {";", ";"}, {"#65;", "#65;"}, {"a<b>c\"d'", "a<b>c\"d'"},
		{"&amp;", "&"}, {"&lt;", "<"}, {"&gt;", ">"}, {"&quot;", "\""}, {"&apos;", "'"},
		{"a&#x41;&lt;", "aA<"}, {"&lt;&gt;", "<>"}, {"&lt;;", "<;"}, {" &lt; ", " < "},
		// What has been decoded is not decoded once more.
		{"&amp;lt;", "&lt;"}, {"&amp;amp;amp;", "&amp;amp;"}, {"&#38;lt;", "&lt;"}, {"&#x26;#65;", "&#65;"}, {"&amp;&amp;", "&&"}, {"&amp;#38;", "&#38;"},
		{"&#65;", "A"}, {"&#065;", "A"}, {"&#000000065;", "A"}, {"&#9;", "\t"}, {"&#10;&#13;", "\n\r"}, {"&#32;", " "}, {"&#1114111;", "\U0010ffff"}, {"&#000000009;", "\t"},
		{"&#x41;", "A"}, {"&#x041;", "A"}, {"&#x00000041;", "A"}, {"&#xe9;", "é"}, {"&#xE9;", "é"}, {"&#x1f600;", "😀"}, {"&#x1F600;", "😀"}, {"&#xaBcD;", "\uabcd"}, {"&#xFfFd;", "\ufffd"}, {"&#x10ffff;", "\U0010ffff"}, {"&#x0010FFFF;", "\U0010ffff"}, {"&#xd7ff;&#xe000;", "\ud7ff\ue000"},
		// Bytes that are no runes stay as they are.
		{"\xff&lt;\xff", "\xff<\xff"}, {"\xc3&#xe9;\xa9", "\xc3é\xa9"}, {"é&lt;é", "é<é"}, {"\xe2\x82&amp;\xac", "\xe2\x82&\xac"}, {"\x00&gt;\x00", "\x00>\x00"}, {"＆lt；", "＆lt；"},
	} {
		if got, e := Decode(x.s); got != x.want || e != api.OK {
			t.Errorf("Decode(%q) is %q, %d", x.s, got, e)
		}
		if got := Loose(x.s); got != x.want {
			t.Errorf("Loose(%q) is %q", x.s, got)
		}
		holds(t, x.s)
	}
}

func TestWhatHasNoSign(t *testing.T) {
	for _, s := range []string{
		"&", "&&", "& ", "a & b", "&;", "&;;", "&x;", "&x", "&amp", "&lt", "&amp ;", "& amp;", "&am p;", "&\namp;", "&amp\n;", "&nbsp;", "&copy;", "&AMP;", "&Amp;", "&LT;", "&amps;", "&am;", "&ampamp;", "&&;;",
		"&#;", "&#x;", "&#", "&#x", "&#65", "&#x41", "#65;&", "&65;", "&x41;", "&##65;", "&#xx41;", "&#X41;", "&#0x41;", "&#x0x41;", "&#41x;", "&#A;", "&#4A;", "&#xG;", "&#x4g;", "&#x@;", "&#x`;", "&#:;", "&#/;",
		"&#+65;", "&#-65;", "&#x+41;", "&#x-41;", "&# 65;", "&#65 ;", "&#6 5;", "&#x 41;", "&#6_5;", "&#x4_1;", "&#_65;", "&#6.5;", "&#6e1;", "&#65\x00;", "&#١;", "&#６５;", "&#x４１;", "&#0b1;", "&#0o7;",
		"&#0;", "&#00;", "&#8;", "&#11;", "&#12;", "&#14;", "&#31;", "&#55296;", "&#57343;", "&#65534;", "&#65535;", "&#1114112;", "&#999999999;", "&#x0;", "&#xb;", "&#x1f;", "&#xd800;", "&#xDFFF;", "&#xfffe;", "&#xFFFF;", "&#x110000;", "&#xFFFFFFFF;", "&#x80000041;", "&#x7fffffff;",
		// Of ten bytes a body may be, of eleven not.
		"&#0000000065;", "&#x000000041;", "&#00000000000000000000000000000065;", "&#18446744073709551681;", "&#4294967361;", "&#x100000041;", "&abcdefghij;", "&abcdefghijk;", "&amp        ;", "&        amp;",
		"&é;", "&éamp;", "&amp\xff;", "&\xffamp;", "&\xff;", "&\x80\x80;", "&ééééé;", "&éééééé;", "&aéaéaéaé;", "&😀😀😀;", "&#\xff65;",
		"&lt；", "&＃65;",
	} {
		if got, e := Decode(s); got != "" || e != api.ErrForm {
			t.Errorf("Decode(%q) is %q, %d", s, got, e)
		}
		if got := Loose(s); got != s {
			t.Errorf("Loose(%q) is %q", s, got)
		}
		for _, ahead := range []string{"a", "&lt;", "\xff"} {
			if got, e := Decode(ahead + s); got != "" || e != api.ErrForm {
				t.Errorf("Decode(%q) is %q, %d", ahead+s, got, e)
			}
			if got, e := Decode(s + ahead); got != "" || e != api.ErrForm {
				t.Errorf("Decode(%q) is %q, %d", s+ahead, got, e)
			}
			holds(t, ahead+s+ahead)
		}
	}
}

func TestLooseGoesOn(t *testing.T) {
	for _, x := range []struct{ s, want string }{
		{"&&gt;", "&>"}, {"&&&gt;", "&&>"}, {"&x;&lt;", "&x;<"}, {"&lt;&x;", "<&x;"}, {"&x&lt;y;", "&x<y;"}, {"&am&amp;", "&am&"}, {"&am&amp;p;", "&am&p;"}, {"&&amp;;", "&&;"},
		{"&#&#65;;", "&#A;"}, {"&#6&#53;;", "&#65;"}, {"&;&lt;", "&;<"}, {"& &lt; &", "& < &"}, {"&amp;lt;&", "&lt;&"}, {"&#0000000065;&#65;", "&#0000000065;A"}, {"a & b &amp; c", "a & b & c"}, {"&\xff&lt;\xff", "&\xff<\xff"}, {"&nbsp;&gt;&copy;", "&nbsp;>&copy;"},
		{"&0123456789&lt;", "&0123456789<"}, {"&ééééé&lt;", "&ééééé<"},
	} {
		if got := Loose(x.s); got != x.want {
			t.Errorf("Loose(%q) is %q", x.s, got)
		}
		if got, e := Decode(x.s); got != "" || e != api.ErrForm {
			t.Errorf("Decode(%q) is %q, %d", x.s, got, e)
		}
		holds(t, x.s)
	}
}

func TestDecodeOfAllNumbers(t *testing.T) {
	for n := 0; n <= 1115000; n++ {
		want, is := "", has(n)
		if is {
			want = written(n)
		}
		for _, s := range []string{"&#" + strconv.Itoa(n) + ";", "&#x" + strconv.FormatInt(int64(n), 16) + ";"} {
			if got, e := Decode(s); got != want || (e == api.OK) != is || !is && e != api.ErrForm {
				t.Fatalf("Decode(%q) is %q, %d", s, got, e)
			}
		}
	}
}

func TestDecodeOfAllShortTexts(t *testing.T) {
	each("&;#x6A\xc3\xa9", 6, func(s string) { holds(t, s) })
	each("&;lt", 7, func(s string) { holds(t, s) })
	for _, name := range []string{"amp", "lt", "gt", "quot", "apos"} {
		each("&;"+name, 5, func(s string) { holds(t, "&"+s+";") })
	}
	for c := range 256 {
		b := string([]byte{byte(c)})
		for _, s := range []string{"&" + b + ";", "&#" + b + ";", "&#x" + b + ";", "&#6" + b + ";", "&#x4" + b + ";", "&" + b + "amp;", "&amp" + b + ";", "&am" + b, "&lt" + b + "&lt;", b + "lt;"} {
			holds(t, s)
		}
	}
}

func TestDecodeOfAllLengths(t *testing.T) {
	for size := range 40 {
		for _, body := range []string{"#", "#x", "", "é", "\xff"} {
			zeros := strings.Repeat("0", size)
			holds(t, "&"+body+zeros+"65;")
			holds(t, "&"+body+zeros+"41;&lt;")
			holds(t, "&"+body+zeros)
			holds(t, "&"+body+zeros+"&lt;")
			holds(t, "&"+zeros+body+";")
			holds(t, "&"+strings.Repeat("9", size)+body+";")
			holds(t, "&"+body+strings.Repeat("9", size)+";")
			holds(t, "&"+body+strings.Repeat("f", size)+";")
		}
		n := 1 + size
		is := n >= 2 && n <= 9
		if _, e := Decode("&#" + strings.Repeat("0", n-1) + "9;"); (e == api.OK) != (is || n == 1) {
			t.Error("digits", n, e)
		}
		if _, e := Decode("&#x" + strings.Repeat("0", n-1) + "9;"); (e == api.OK) != (n <= 8) {
			t.Error("digits to the base 16", n, e)
		}
	}
}

func TestDecodeByChance(t *testing.T) {
	source := rand.New(rand.NewSource(7))
	for range 200000 {
		holds(t, some(source, 12))
	}
}

// P7.3

func TestEncode(t *testing.T) {
	for _, x := range []struct{ s, want string }{
		{"", ""}, {"a", "a"}, {"&", "&amp;"}, {"<", "&lt;"}, {">", "&gt;"}, {"\"", "&quot;"}, {"'", "'"}, {";", ";"}, {"#", "#"},
		{"<a b=\"c\">&'", "&lt;a b=&quot;c&quot;&gt;&amp;'"}, {"&amp;", "&amp;amp;"}, {"&lt;", "&amp;lt;"}, {"&#65;", "&amp;#65;"}, {"&&", "&amp;&amp;"}, {"<<>>", "&lt;&lt;&gt;&gt;"},
		{"é<é", "é&lt;é"}, {"\xff<\xff", "\xff&lt;\xff"}, {"\xc3&\xa9", "\xc3&amp;\xa9"}, {"\x00&\x00", "\x00&amp;\x00"}, {"a\tb\nc\rd", "a\tb\nc\rd"}, {"😀\"😀", "😀&quot;😀"}, {"\u0126\u013c\u013e\u0122", "\u0126\u013c\u013e\u0122"}, {"＆＜＞", "＆＜＞"},
	} {
		if got := Encode(x.s); got != x.want {
			t.Errorf("Encode(%q) is %q", x.s, got)
		}
	}
	by := strings.NewReplacer("&", "&amp;", "<", "&lt;", ">", "&gt;", "\"", "&quot;")
	agrees := func(s string) {
		if got := Encode(s); got != by.Replace(s) {
			t.Fatalf("Encode(%q) is %q", s, got)
		}
	}
	for c := range 256 {
		for d := range 256 {
			agrees(string([]byte{byte(c), byte(d)}))
		}
	}
	source := rand.New(rand.NewSource(8))
	for range 50000 {
		agrees(some(source, 12))
	}
}

func TestSpace(t *testing.T) {
	for c := range 256 {
		if got, want := Space(byte(c)), bytes.IndexByte([]byte{9, 10, 13, 32}, byte(c)) >= 0; got != want {
			t.Errorf("Space(%d) is %v", c, got)
		}
	}
}

// trimmed is Trim byte by byte.
func trimmed(s string) string {
	var words []string
	var word []byte
	for i := 0; i <= len(s); i++ {
		if i < len(s) && strings.IndexByte("\x09\x0a\x0d\x20", s[i]) < 0 {
			word = append(word, s[i])
			continue
		}
		if len(word) > 0 {
			words = append(words, string(word))
			word = nil
		}
	}
	return strings.Join(words, " ")
}

func TestTrim(t *testing.T) {
	for _, x := range []struct{ s, want string }{
		{"", ""}, {" ", ""}, {"\t\n\r ", ""}, {"a", "a"}, {" a", "a"}, {"a ", "a"}, {"a b", "a b"}, {"a  b", "a b"}, {"a\tb", "a b"}, {"a\nb", "a b"}, {"a\rb", "a b"}, {"a\r\nb", "a b"}, {" \n a\tb\r\n  c ", "a b c"}, {"ab cd", "ab cd"},
		{"a\vb\fc", "a\vb\fc"}, {"\v", "\v"}, {"\f a \f", "\f a \f"}, {"\x00 \x00", "\x00 \x00"}, {"\x1f  \x7f", "\x1f \x7f"},
		{"\u00a0", "\u00a0"}, {" \u00a0 ", "\u00a0"}, {"a\u00a0b", "a\u00a0b"}, {"a\u0085b", "a\u0085b"}, {"\u2003a\u3000", "\u2003a\u3000"}, {"a\u2028b", "a\u2028b"}, {"\u0109\u010a\u010d\u0120", "\u0109\u010a\u010d\u0120"},
		{"\xff \xff", "\xff \xff"}, {"\xe2\x82 \xac", "\xe2\x82 \xac"}, {"é  é", "é é"}, {"\x85\xa0", "\x85\xa0"}, {" \xc3\n", "\xc3"},
	} {
		if got := Trim(x.s); got != x.want {
			t.Errorf("Trim(%q) is %q", x.s, got)
		}
	}
	agrees := func(s string) {
		if got := Trim(s); got != trimmed(s) || Trim(got) != got {
			t.Fatalf("Trim(%q) is %q", s, got)
		}
	}
	each("a \t\n\r\xff", 6, agrees)
	for c := range 256 {
		b := string([]byte{byte(c)})
		agrees(b)
		agrees("a" + b + "b")
		agrees(b + b + "a" + b + b)
	}
	for r := range rune(0x3100) {
		agrees("a" + string(r) + "b")
	}
	source := rand.New(rand.NewSource(9))
	for range 50000 {
		agrees(some(source, 12))
	}
}

// P7.4

func TestWhatIsEncodedIsDecoded(t *testing.T) {
	back := func(s string) {
		x := Encode(s)
		if got, e := Decode(x); got != s || e != api.OK {
			t.Fatalf("%q is encoded as %q, and decoded as %q, %d", s, x, got, e)
		}
		if got := Loose(x); got != s {
			t.Fatalf("%q is encoded as %q, and loosely decoded as %q", s, x, got)
		}
		if strings.ContainsAny(x, "<>\"") {
			t.Fatalf("%q is encoded as %q", s, x)
		}
	}
	for c := range 256 {
		for d := range 256 {
			back(string([]byte{byte(c), byte(d)}))
		}
	}
	for _, s := range odd {
		back(s)
		back("&" + s + ";")
	}
	each("&;<>\"'a", 5, back)
	source := rand.New(rand.NewSource(10))
	for range 50000 {
		back(some(source, 12))
		b := make([]byte, source.Intn(40))
		source.Read(b)
		back(string(b))
	}
}

// R1, R3, R5

func TestLongTexts(t *testing.T) {
	const size = 1 << 21
	begin := time.Now()
	for _, s := range []string{"&", ";", "&;", "&lt;", "&#", "&#x", "&0123456789", "&ééééé", " ", "a ", "\xff", "&#0000000065;", "<"} {
		text := strings.Repeat(s, size/len(s))
		if got, all := model(text); Loose(text) != got {
			t.Errorf("Loose of many %q", s)
		} else if _, e := Decode(text); (e == api.OK) != all {
			t.Errorf("Decode of many %q", s)
		}
		if back, e := Decode(Encode(text)); back != text || e != api.OK {
			t.Errorf("Encode of many %q", s)
		}
		if Trim(text) != trimmed(text) {
			t.Errorf("Trim of many %q", s)
		}
	}
	if took := time.Since(begin); took > time.Minute {
		t.Error("too long:", took)
	}
}

func TestAskedAgain(t *testing.T) {
	source := rand.New(rand.NewSource(11))
	for range 2000 {
		s := some(source, 12)
		was := strings.Clone(s)
		text, e := Decode(s)
		loose, coded, trim := Loose(s), Encode(s), Trim(s)
		Decode("&amp;&#65;")
		Loose("&&lt;")
		if again, is := Decode(s); again != text || is != e || Loose(s) != loose || Encode(s) != coded || Trim(s) != trim || s != was {
			t.Fatalf("%q is answered otherwise", s)
		}
	}
}
