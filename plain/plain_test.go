package plain

import (
	"math"
	"math/rand"
	"regexp"
	"slices"
	"strings"
	"testing"
	"time"

	"mailcoach/ent"
)

// each goes through all texts of at most so many of some pieces.
func each(some []string, most int, try func(s string)) {
	var grow func(s string, more int)
	grow = func(s string, more int) {
		try(s)
		if more == 0 {
			return
		}
		for _, p := range some {
			grow(s+p, more-1)
		}
	}
	grow("", most)
}

// breakers are the names of marks that break, hiders of those that hide, and others the names of some that do neither.
var (
	breakers = []string{"p", "br", "div", "li", "tr", "ul", "ol", "table", "h1", "h2", "h3", "h4", "h5", "h6"}
	hiders   = []string{"script", "style"}
	others   = []string{"a", "b", "i", "em", "span", "h", "h0", "h7", "h8", "h9", "h10", "h11", "h61", "hr", "ha", "pre", "p1", "pp", "b1", "brr", "rb", "di", "divs", "l", "l1", "lis", "t", "td", "th", "trs", "u", "o", "ull", "oll", "dl", "tables", "tabl", "thead", "scripts", "scrip", "styles", "styl", "noscript", "1p", "h1h2", "x"}
)

// parts are what texts with marks are made of, or spoilt by.
var parts = []string{
	"<", "<", "<", "</", "</", ">", ">", ">", "!", "/", "--", "<!--", "-->", "<![CDATA[", "]]>", "<br>", "<p>", "</p>", "<script>", "</script>", "<STYLE", "</Style",
	"p", "br", "BR", "Div", "li", "tr", "ul", "OL", "table", "h", "1", "6", "7", "h2", "H3", "script", "SCRIPT", "style", "sTyLe", "b", "Z", "0", "9", "@", "[", "`", "{", ":", "-", "_",
	" ", " ", "\n", "\t", "\r", "x", "class=\"a\"", "&amp;", "&lt;", "&gt;", "&", "am", "lt;", "&#60;", "&#10;", "&nbsp;",
	"\x00", "\v", "\xff", "\xc3", "\u00e9", "\u017f", "\u0131", "\u0130", "\u212a", "\u00a0", "\u2028", "\uff1c",
}

// some is a text by chance.
func some(source *rand.Rand, most int) string {
	var s strings.Builder
	for range source.Intn(most + 1) {
		s.WriteString(parts[source.Intn(len(parts))])
	}
	return s.String()
}

var (
	marks  = regexp.MustCompile(`<(?:[A-Za-z]|/|!)[^>]*(?:>|$)`)
	begins = regexp.MustCompile(`<([A-Za-z/!])`)
	names  = regexp.MustCompile(`^</?([A-Za-z0-9]*)`)
	broken = regexp.MustCompile(`^(?:p|br|div|li|tr|ul|ol|table|h[1-6])$`)
	hidden = regexp.MustCompile(`^<(?:[sS][cC][rR][iI][pP][tT]|[sS][tT][yY][lL][eE])(?:[^A-Za-z0-9]|$)`)
	ends   = map[string]*regexp.Regexp{"script": regexp.MustCompile(`</[sS][cC][rR][iI][pP][tT]`), "style": regexp.MustCompile(`</[sS][tT][yY][lL][eE]`)}
)

// model is P11.1 by patterns.
func model(s string) string {
	shown := []string{""}
	for {
		at := marks.FindStringIndex(s)
		if at == nil {
			break
		}
		m := s[at[0]:at[1]]
		shown[len(shown)-1] += s[:at[0]]
		s = s[at[1]:]
		name := strings.ToLower(names.FindStringSubmatch(m)[1])
		if broken.MatchString(name) {
			shown = append(shown, "")
		}
		if hidden.MatchString(m) {
			if end := ends[name].FindStringIndex(s); end != nil {
				s = s[end[0]:]
			} else {
				s = ""
			}
		}
	}
	shown[len(shown)-1] += s
	var out []string
	for _, p := range shown {
		if p = ent.Trim(ent.Loose(p)); p != "" {
			out = append(out, p)
		}
	}
	return strings.Join(out, "\n")
}

var blanks = regexp.MustCompile("[\t\n\r ]+")

func wordsOf(line string) []string {
	return slices.DeleteFunc(blanks.Split(line, -1), func(w string) bool { return w == "" })
}

// modelWrap is P11.2 from the other side: each line has as many of the words that are left as can be, but one at least.
func modelWrap(s string, most int) (lines []string) {
	if most < 1 {
		return nil
	}
	for line := range strings.SplitSeq(s, "\n") {
		words := wordsOf(line)
		if len(words) == 0 {
			lines = append(lines, "")
		}
		for len(words) > 0 {
			n := len(words)
			for n > 1 && len(strings.Join(words[:n], " ")) > most {
				n--
			}
			lines = append(lines, strings.Join(words[:n], " "))
			words = words[n:]
		}
	}
	return lines
}

// plains says what Of makes of texts.
func plains(t *testing.T, all map[string]string) {
	t.Helper()
	for s, want := range all {
		if got := Of(s); got != want {
			t.Errorf("Of(%q) = %q, want %q", s, got, want)
		}
		if got := model(s); got != want {
			t.Errorf("the model of %q is %q, want %q", s, got, want)
		}
	}
}

func agrees(t *testing.T, s string) {
	t.Helper()
	if got, want := Of(s), model(s); got != want {
		t.Fatalf("Of(%q) = %q, want %q", s, got, want)
	}
}

func agreesWrapped(t *testing.T, s string, most int) {
	t.Helper()
	if got, want := Wrap(s, most), modelWrap(s, most); !slices.Equal(got, want) {
		t.Fatalf("Wrap(%q, %d) = %q, want %q", s, most, got, want)
	}
}

// P11.1

func TestOf(t *testing.T) {
	plains(t, map[string]string{
		"": "", "a": "a", " a  b\n\tc\r ": "a b c",
		"a<br>b&amp;<script>x</script> c":                        "a\nb& c",
		"<p>One</p>\n<p>Two <b>bold</b>er</p>":                   "One\nTwo bolder",
		"<ul><li>a<li>b</ul>":                                    "a\nb",
		"<h1 class=\"x\">T</h1><div>u</div>":                     "T\nu",
		"see <a href=\"http://a/?b&amp;c\">there</a>.":           "see there.",
		"<table><tr><td>1</td><td>2</td></tr><tr>3</tr></table>": "12\n3",
		"<!DOCTYPE html><html><body>x</body></html>":             "x",
		"<style type=\"a\">p { x: y }</style>z":                  "z",
	})
}

// What is a mark: a letter, / or ! right behind the <, and all up to the next >, or the end.
func TestMarks(t *testing.T) {
	plains(t, map[string]string{
		"a<": "a<", "<": "<", "<<": "<<", "<>": "<>", "a<>b": "a<>b", ">": ">", "a>b": "a>b",
		"a < b <3": "a < b <3", "a<1>b": "a<1>b", "a< b>c": "a< b>c", "a<\nb>c": "a< b>c", "a<?b>c": "a<?b>c", "a<_b>c": "a<_b>c", "a<->c": "a<->c", "a<&lt;b>c": "a<<b>c",
		"a<b": "a", "a<b>": "a", "a<b>c": "ac", "<Z>c": "c", "<z>c": "c", "<A>c": "c", "<a>c": "c",
		"a</": "a", "a</>b": "ab", "a</b": "a", "a</ b>c": "ac", "a<//>c": "ac", "a</1>c": "ac", "a</<>c": "ac",
		"a<!": "a", "a<!>b": "ab", "a<!b>c": "ac", "a<! b>c": "ac", "a<!-->c": "ac",
		"x<!-- y>z": "xz", "x<!-- y>z-->w": "xz-->w", "x<!-- <p> -->z": "x -->z", "<![CDATA[<b>x</b>]]>": "x]]>",
		// beside A, Z, a and z, and letters of others
		"<@>": "<@>", "<[>": "<[>", "<`>": "<`>", "<{>": "<{>", "<\u00e9>": "<\u00e9>", "<\u0430>": "<\u0430>", "<\u017f>": "<\u017f>", "<\uff41>": "<\uff41>", "<\xe9>": "<\xe9>", "<\x00b>": "<\x00b>", "\uff1cb>": "\uff1cb>",
		// a < within a mark, and ahead of one
		"a<b<c>d": "ad", "a<b<c>d>e": "ad>e", "<<b>c": "<c", "<<b>p>c": "<p>c", "<<b>b>c": "<b>c", "a<<p>b": "a<\nb", "<b<p>c": "c", "a<p<b>c": "a\nc", "</<p>c": "c",
		"<b a=\">\">c": "\">c", "<b\n\nc>d": "d", "<b\x00\xff\xc3>d": "d", "<b\u00e9>d": "d",
		// marks are found ahead of entities
		"&lt;p&gt;a&lt;/p&gt;": "<p>a</p>", "&#60;br&#62;a": "<br>a", "&lt;b>c": "<b>c", "<b&gt;c>d": "d", "a&lt;script>b": "a<script>b",
	})
}

// Which break: by all names, however they are written, and no others.
func TestBreaks(t *testing.T) {
	for _, name := range breakers {
		for _, m := range []string{"<" + name + ">", "</" + name + ">", "<" + strings.ToUpper(name) + ">", "</" + strings.ToUpper(name[:1]) + name[1:] + ">", "<" + name + "/>", "<" + name + " >", "<" + name + "\n>", "<" + name + " a=\"b\">", "<" + name + "-x>", "<" + name + ":x>", "<" + name + "\x00>", "<" + name + "\u00e9>", "<" + name + "<b>"} {
			if got := Of("x" + m + "y"); got != "x\ny" {
				t.Errorf("%q: %q", m, got)
			}
		}
		for _, m := range []string{"<!" + name + ">", "<! " + name + ">", "<x " + name + ">", "</ " + name + ">", "<//" + name + ">", "<x" + name + ">", "</x" + name + ">", "<" + name + "x>", "<" + name + "0>", "<x/" + name + ">", "<b<" + name + ">"} {
			if got, want := Of("x"+m+"y"), "xy"; got != want {
				t.Errorf("%q: %q", m, got)
			}
		}
		for _, m := range []string{"<" + name, "</" + name, "<" + strings.ToUpper(name) + " "} {
			if got := Of("x" + m); got != "x" {
				t.Errorf("%q: %q", m, got)
			}
		}
	}
	for _, name := range slices.Concat(others, []string{"\u0440", "\uff50"}) {
		if name[0] >= 'a' && name[0] <= 'z' {
			for _, m := range []string{"<" + name + ">", "</" + name + ">", "<" + strings.ToUpper(name) + ">", "<" + name + " a>"} {
				if got := Of("x" + m + "y"); got != "xy" {
					t.Errorf("%q: %q", m, got)
				}
			}
			continue
		}
		if got := Of("x</" + name + ">y"); got != "xy" {
			t.Errorf("%q: %q", name, got)
		}
	}
}

func TestBreaksOfAllBytes(t *testing.T) {
	for c := range 256 {
		b := string([]byte{byte(c)})
		for _, s := range []string{"<" + b + ">", "</" + b + ">", "<p" + b + ">", "<h" + b + ">", "</h" + b, "<" + b + "p>", "<" + b + "script>", "<script" + b + ">", "</" + b + "br>", "<h1" + b + ">", b + "<b>" + b, "<script>x</script" + b + ">z", "<script>x</" + b + "script>z", "<script>x<" + b + "/script>z"} {
			agrees(t, s)
			agrees(t, "x"+s+"y")
			agrees(t, "x"+s+"y>z")
		}
	}
}

// What hides, and up to where.
func TestHides(t *testing.T) {
	for _, name := range hiders {
		great := strings.ToUpper(name)
		mixed := strings.ToUpper(name[:2]) + name[2:]
		other := hiders[0]
		if name == other {
			other = hiders[1]
		}
		for s, want := range map[string]string{
			"a<N>b</N>c": "ac", "a<N>b</G>c": "ac", "a<G>b</N>c": "ac", "a<M>b</M>c": "ac", "a<N>b": "a", "a<N>": "a", "a<N": "a",
			"a<N x=y>b</N >c": "ac", "a<N\n>b</N\n>c": "ac", "a<N/>b</N>c": "ac", "a<N />b</N>c": "ac", "a<N-x>b</N>c": "ac",
			"a<N>b<b</N>c": "ac", "a<N>b<p>d</p><!--</N>c": "ac", "a<N><N>b</N>c</N>d": "acd", "a<N>b</N>c</N>d": "acd", "a<N>b<br></N>c": "ac", "a<N>&lt;/N></N>c": "ac",
			// the end of the other one, and what only looks like an end
			"a<N>b</O>c": "a", "a<N>b</O>c</N>d": "ad", "a<N>b<O>c</N>d</O>e": "ade", "a<N>b</ N>c": "a", "a<N>b<N>c": "a", "a<N>b< /N>c": "a", "a<N>b<//N>c": "a", "a<N>b/N>c": "a", "a<N>b<!/N>c": "a", "a<N>b</xN>c": "a", "a<N>b</</N>c": "ac", "a<N>b<</N>c": "ac", "a<N>b</N": "a", "a<N>b</": "a", "a<N>b<": "a",
			// the name is looked for, whatever stands behind it
			"a<N>b</Nx>c": "ac", "a<N>b</N1>c</N>d": "acd", "a<N>b</N c>d": "ad", "a<N>b</N<p>c": "ac", "a<N>b</N-": "a",
			// behind the mark alone
			"a<N </N>b": "a", "a<N </N>b</N>c": "ac", "a<N </N": "a",
			// none of these hide
			"a</N>b</N>c": "abc", "a</N>b": "ab", "a<!N>b": "ab", "a<Nx>b": "ab", "a<N1>b": "ab", "a<xN>b": "ab", "a<x N>b": "ab", "a<//N>b": "ab", "a< N>b": "a< N>b", "a<b<N>c": "ac",
			// no break stands there
			" a <N> b </N> c ": "a c", "a<p><N>b</N><p>c": "a\nc", "a<br<N>b": "a\nb",
		} {
			of := strings.NewReplacer("N", name, "G", great, "M", mixed, "O", other)
			s, want = of.Replace(s), of.Replace(want)
			plains(t, map[string]string{s: want})
		}
	}
	plains(t, map[string]string{
		"a<\u017ftyle>b":                "a<\u017ftyle>b",
		"a<script>b</\u017fcript>c":     "a",
		"a<script>b</scr\u0131pt>c":     "a",
		"a<script>b</scr\u0130pt>c":     "a",
		"a<style>b</\uff53tyle>c":       "a",
		"a<script>b</\x13cript>c":       "a", // letters, less 96, 64 and 32
		"a<script>b</\x33cript>c":       "a",
		"a<style>b</\xd3tyle>c":         "a", // and with the highest bit
		"a<style>b</st\x00yle>c":        "a",
		"a<scr\u0130pt>b":               "ab",
		"a<script>b</scr</script>c":     "ac",
		"a<script>b</</scrip</script>c": "ac",
	})
}

// What is left is cut at breaks, and only then are entities read, and blanks trimmed.
func TestPieces(t *testing.T) {
	plains(t, map[string]string{
		"<p>": "", "<p></p>": "", "<p> </p>\n<br>": "", "<br><br>a<br><br>b<br><br>": "a\nb", "<p>a</p><p> b </p>": "a\nb",
		"a\nb": "a b", "a\n\nb<br>\n\nc\n": "a b\nc", "a<br>&#10;<br>b": "a\nb", "a<br>&#32;&#9;&#13;<br>b": "a\nb", "a&#10;b": "a b", "&#32;a&#32;&#32;b&#32;": "a b",
		"a<b> b": "a b", "a <b> b": "a b", "a<b>b": "ab", "a <b></b> <i></i> b": "a b",
		"&amp;": "&", "&amp;lt;": "&lt;", "&lt;&gt;&quot;&apos;&#65;&#x41;": "<>\"'AA", "a&nbsp;b": "a&nbsp;b", "&": "&", "&;&x;&#0;": "&;&x;&#0;", "&AMP;": "&AMP;",
		"a\u00a0<br>\u00a0b": "a\u00a0\n\u00a0b", "a\v<br>\fb": "a\v\n\fb", "\u00a0": "\u00a0", "a<br>\x00<br>b": "a\n\x00\nb", "\u2028a\u0085": "\u2028a\u0085",
		"\xff<p>\xc3": "\xff\n\xc3", "\xc3<b>\xa9": "\u00e9",
		// what a mark, or what is hidden, stood within
		"&am<b>p;": "&", "&l<script>x</script>t;": "<", "&am<br>p;": "&am\np;", "&<!---->amp;": "&", "&amp<p>;": "&amp\n;", "&#6<i></i>5;": "A",
		"<<b>script>x": "<script>x", "<<script>x</script>p>y": "<p>y", "<<p>p>y": "<\np>y",
	})
}

func TestOfAllShort(t *testing.T) {
	for _, some := range [][]string{
		{"<", ">", "/", "!", "p", "x", " "},
		{"<", ">", "</", "br", "script", "STYLE", "x"},
		{"<p>", "<script>", "</script>", "<style", "</Style", ">", "x "},
		{"<", "h", "1", "7", "H", ">", "&lt;"},
		{"&", "<b>", "<p>", "lt", ";", "\n", "a"},
	} {
		each(some, 6, func(s string) { agrees(t, s) })
	}
}

func TestOfAllNames(t *testing.T) {
	for _, name := range slices.Concat(breakers, hiders, others) {
		for _, ahead := range []string{"", "/", "!", "//", " ", "/ "} {
			for _, behind := range []string{"", ">", "/>", " >", "x>", "0>", "->", "\u00e9>", "\n>", "<>"} {
				for _, more := range []string{"", "y", "y</script>z", "y</STYLE>z", "y<p>z</" + strings.ToUpper(name) + ">w"} {
					agrees(t, "x<"+ahead+name+behind+more)
					agrees(t, "x<"+ahead+strings.ToUpper(name)+behind+more)
				}
			}
		}
	}
}

func TestOfByChance(t *testing.T) {
	source := rand.New(rand.NewSource(111))
	for range 300000 {
		agrees(t, some(source, 14))
	}
	for range 2000 {
		agrees(t, some(source, 300))
	}
	for range 20000 {
		b := make([]byte, source.Intn(60))
		source.Read(b)
		agrees(t, string(b))
		agrees(t, "<"+string(b))
	}
}

// P11.2

func TestWrap(t *testing.T) {
	for _, x := range []struct {
		s    string
		most int
		want []string
	}{
		{"a bc d", 4, []string{"a bc", "d"}}, {"abcdef g", 3, []string{"abcdef", "g"}}, {"a\n\nb", 9, []string{"a", "", "b"}}, {"  a   b ", 3, []string{"a b"}},
		{"aa bb", 4, []string{"aa", "bb"}}, {"aa bb", 5, []string{"aa bb"}}, {"aa bb", 6, []string{"aa bb"}}, {"aa bb c", 5, []string{"aa bb", "c"}}, {"aa bb c", 7, []string{"aa bb c"}}, {"aa bb c", 6, []string{"aa bb", "c"}},
		{"a b c", 1, []string{"a", "b", "c"}}, {"a b c", 2, []string{"a", "b", "c"}}, {"a b c", 3, []string{"a b", "c"}}, {"a b c", 5, []string{"a b c"}},
		// a word that is too long stands alone
		{"abc", 2, []string{"abc"}}, {"abc", 3, []string{"abc"}}, {"a bcde f", 3, []string{"a", "bcde", "f"}}, {"abcd a b", 3, []string{"abcd", "a b"}}, {"abcd\nefgh", 3, []string{"abcd", "efgh"}}, {"abcd efgh", 1, []string{"abcd", "efgh"}},
		// lines are not put together
		{"a\nb", 9, []string{"a", "b"}}, {"a b\nc", 9, []string{"a b", "c"}}, {"a b c\nd e", 3, []string{"a b", "c", "d e"}}, {"\na", 9, []string{"", "a"}}, {"a\n", 9, []string{"a", ""}},
		// lines without words
		{"", 5, []string{""}}, {" ", 5, []string{""}}, {"\t\r ", 1, []string{""}}, {"\n", 5, []string{"", ""}}, {"\n\n", 1, []string{"", "", ""}}, {" \n\t\n\r", 1, []string{"", "", ""}}, {"a\n \nb", 9, []string{"a", "", "b"}}, {"a\r\n\r\nb", 9, []string{"a", "", "b"}},
		// blanks of all kinds, and what are none
		{"a\tb\rc  d \t e", 99, []string{"a b c d e"}}, {"a\r\nb", 99, []string{"a", "b"}}, {"a\rb", 1, []string{"a", "b"}},
		{"a\vb\fc", 1, []string{"a\vb\fc"}}, {"a\u00a0b", 1, []string{"a\u00a0b"}}, {"a\u2028b\u0085c", 1, []string{"a\u2028b\u0085c"}}, {"\u3000 \u0120", 9, []string{"\u3000 \u0120"}}, {"\x00 \x00", 3, []string{"\x00 \x00"}}, {"\v", 1, []string{"\v"}},
		// bytes are counted, not runes
		{"é é", 4, []string{"é", "é"}}, {"é é", 5, []string{"é é"}}, {"\xff \xff", 3, []string{"\xff \xff"}}, {"\xff \xff", 2, []string{"\xff", "\xff"}},
		// what is no concern of it
		{"<p> &amp;\n<br>", 9, []string{"<p> &amp;", "<br>"}},
		{"a b", math.MaxInt, []string{"a b"}}, {"", math.MaxInt, []string{""}}, {"a b", math.MaxInt - 1, []string{"a b"}}, {"a b", 1 << 32, []string{"a b"}},
	} {
		if got := Wrap(x.s, x.most); !slices.Equal(got, x.want) {
			t.Errorf("Wrap(%q, %d) = %q, want %q", x.s, x.most, got, x.want)
		}
		agreesWrapped(t, x.s, x.most)
	}
}

func TestWrapOfNothing(t *testing.T) {
	for _, most := range []int{0, -1, -2, -72, -1 << 31, -1 << 32, -1<<32 + 1, -1 << 62, math.MinInt + 1, math.MinInt} {
		for _, s := range []string{"", "a", "a b", "\n", "a\n\nb"} {
			if got := Wrap(s, most); len(got) != 0 {
				t.Errorf("Wrap(%q, %d) = %q", s, most, got)
			}
		}
	}
}

func TestWrapOfAllShort(t *testing.T) {
	each([]string{"a", "bb", "é", " ", "\n", "\t", "\r"}, 6, func(s string) {
		for most := range 9 {
			agreesWrapped(t, s, most)
		}
	})
}

func TestWrapOfAllBytes(t *testing.T) {
	for c := range 256 {
		b := string([]byte{byte(c)})
		for _, s := range []string{b, b + b, "a" + b + "b", "a" + b + b + "b", b + "a" + b, "a " + b + " b", "a\n" + b + "\nb"} {
			for most := range 6 {
				agreesWrapped(t, s, most)
			}
		}
	}
}

func TestWrapByChance(t *testing.T) {
	source := rand.New(rand.NewSource(112))
	for range 60000 {
		var s strings.Builder
		for range source.Intn(40) {
			s.WriteString(strings.Repeat("x", source.Intn(8)))
			s.WriteString([]string{" ", " ", " ", "  ", "\n", "\t", "\u00a0", "\xff"}[source.Intn(8)])
		}
		agreesWrapped(t, s.String(), source.Intn(40))
		agreesWrapped(t, some(source, 30), 1+source.Intn(72))
	}
}

// P11.3

// A text without a mark and without an entity is the same, but for blanks.
func TestTextsWithoutMarksAndEntities(t *testing.T) {
	same := func(s string) {
		if got, want := Of(s), strings.Join(wordsOf(s), " "); got != want {
			t.Fatalf("Of(%q) = %q, want %q", s, got, want)
		}
	}
	for _, s := range []string{"", "a", "a b", " a\n\nb\t", "1 < 2 > 0", "<3", "a & b", "& ; &", "&;", "a;b", "&nbsp", "<>", "< p >", "<?p>", "p br script", "\xff \xc3", "\u00a0 \v", "\uff1cp\uff1e"} {
		same(s)
	}
	source := rand.New(rand.NewSource(113))
	for range 100000 {
		s := some(source, 14)
		// A < with a - behind it makes no mark, and no body with a blank has a sign.
		s = begins.ReplaceAllString(s, "<-$1")
		s = strings.ReplaceAll(s, "&", "& ")
		same(s)
	}
}

// A line that is wrapped is too long only if it is one word; its words are those of the text, and none could have stood in the line ahead.
func TestWrappedLines(t *testing.T) {
	source := rand.New(rand.NewSource(114))
	for range 60000 {
		s, most := some(source, 40), 1+source.Intn(30)
		if source.Intn(2) == 0 {
			s = Of(s)
		}
		var words []string
		for _, line := range Wrap(s, most) {
			if len(line) > most && strings.ContainsAny(line, " \t\r\n") {
				t.Fatalf("Wrap(%q, %d): %q is too long", s, most, line)
			}
			words = append(words, wordsOf(line)...)
		}
		if want := wordsOf(s); !slices.Equal(words, want) {
			t.Fatalf("Wrap(%q, %d) has the words %q, want %q", s, most, words, want)
		}
		if got, want := len(Wrap(s, math.MaxInt)), 1+strings.Count(s, "\n"); got != want {
			t.Fatalf("Wrap(%q) has %d lines, want %d", s, got, want)
		}
	}
}

// Lines that are wrapped stay as they are, wrapped once more.
func TestWrappedAgain(t *testing.T) {
	source := rand.New(rand.NewSource(115))
	for range 30000 {
		most := 1 + source.Intn(30)
		lines := Wrap(some(source, 40), most)
		if again := Wrap(strings.Join(lines, "\n"), most); !slices.Equal(again, lines) {
			t.Fatalf("%q by %d are %q", lines, most, again)
		}
	}
}

// R1, R3 and R5

func TestAskedAgain(t *testing.T) {
	source := rand.New(rand.NewSource(116))
	for range 5000 {
		s, most := some(source, 20), source.Intn(20)
		was := strings.Clone(s)
		text, lines := Of(s), Wrap(s, most)
		kept := slices.Clone(lines)
		Of("<script>a<br>")
		other := Wrap(s, most)
		for i := range other {
			other[i] = "changed"
		}
		if Of(s) != text || !slices.Equal(Wrap(s, most), lines) || !slices.Equal(lines, kept) || s != was {
			t.Fatalf("%q is answered otherwise", s)
		}
	}
}

// Texts that are long, or repeat what is looked for, take no longer than others.
func TestTextsMadeToTakeLong(t *testing.T) {
	const size = 1 << 21
	start := time.Now()
	for _, s := range []string{"<", "</", "<a", "<!", "<>", "<p>", "<b>", ">", "<script", "<script>", "</script", "</script>", "<script></script>", "</scrip", "<style><script>", "&", "&amp;", "&am<b>p;", "a ", " ", "a<br>", "\n", "\xff", "a"} {
		long := strings.Repeat(s, size/len(s))
		for _, begin := range []string{"", "x", "<script>", "<"} {
			Of(begin + long)
		}
		for _, most := range []int{1, 72, math.MaxInt} {
			Wrap(long, most)
		}
	}
	if got := Of(strings.Repeat("a<p>", size/4)); got != strings.TrimSuffix(strings.Repeat("a\n", size/4), "\n") {
		t.Errorf("%.100q", got)
	}
	if got := Of("<script>" + strings.Repeat("</scrip", size/7) + "</SCRIPT>a"); got != "a" {
		t.Errorf("%.100q", got)
	}
	if got := Wrap(strings.Repeat("a ", size/2), math.MaxInt); len(got) != 1 || len(got[0]) != size-1 {
		t.Errorf("%d", len(got))
	}
	if took := time.Since(start); took > 30*time.Second {
		t.Error("too long:", took)
	}
}
