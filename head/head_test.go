package head

import (
	"bytes"
	"encoding/base64"
	"fmt"
	"math/rand"
	"mime"
	"net/mail"
	"regexp"
	"slices"
	"strings"
	"testing"
	"time"
	"unicode/utf8"

	"mailcoach/api"
)

// each goes through all texts of at most so many of some pieces.
func each(some []string, most int, try func(s string)) {
	var grow func(s string, more int)
	grow = func(s string, more int) {
		try(s)
		if more == 0 {
			return
		}
		for _, p := range some {
			grow(s+p, more-1)
		}
	}
	grow("", most)
}

// parts are what texts, and lines, are made of or spoilt by.
var parts = []string{
	"a", "b", "Z", "~", "!", "0", ":", "-", "=", "?", "=?", "?=", "=?utf-8?B?", "=?utf-8?B?w6k=?=", "=?UTF-8?B?w6k=?=", " ", " ", " ", "  ", "\t", "\r", "\n", "\r\n", "\r\n ", ": ",
	"\x00", "\x1f", "\x7f", "\x80", "\xbf", "\xc0", "\xff", "\u00e9", "\u20ac", "\U0001f4e7", "\u00a0", "\u2028", "\xe2\x82", "\x80\x80\x80\x80", "\xbf\x80\xbf\x80\xbf",
	strings.Repeat("x", 10), strings.Repeat("y", 30), strings.Repeat("z", 44), strings.Repeat("w", 73), strings.Repeat("a ", 20) + "a", strings.Repeat("\u00e9", 15), strings.Repeat("\u20ac", 14), strings.Repeat("\U0001f4e7", 11),
}

// some is a text by chance.
func some(source *rand.Rand, most int) string {
	var s strings.Builder
	for range source.Intn(most + 1) {
		s.WriteString(parts[source.Intn(len(parts))])
	}
	return s.String()
}

// plain is a text of words by chance, many of which fill a line.
func plain(source *rand.Rand) string {
	var words []string
	for range source.Intn(12) {
		n := 1 + source.Intn(12)
		if source.Intn(4) == 0 {
			n = 20 + source.Intn(60)
		}
		words = append(words, strings.Repeat("p", n))
	}
	return strings.Join(words, " ")
}

const nameBytes = "ABCDEFGHIJKLMNOPQRSTUVWXYZabcdefghijklmnopqrstuvwxyz0123456789-"

// someHeader is one by chance; its name may be.
func someHeader(source *rand.Rand) api.Header {
	name := make([]byte, 1+source.Intn(40))
	for i := range name {
		name[i] = nameBytes[source.Intn(len(nameBytes))]
	}
	switch source.Intn(3) {
	case 0:
		return api.Header{Name: string(name), Text: plain(source)}
	case 1:
		return api.Header{Name: string(name), Text: some(source, 3)}
	default:
		return api.Header{Name: string(name), Text: some(source, 12)}
	}
}

func headers(source *rand.Rand) []api.Header {
	var l []api.Header
	for range source.Intn(6) {
		l = append(l, someHeader(source))
	}
	return l
}

var (
	nameForm  = regexp.MustCompile(`^[A-Za-z0-9-]{1,40}$`)
	plainForm = regexp.MustCompile(`^[!-~]+(?: [!-~]+)*$`)
	lineForm  = regexp.MustCompile(`^([A-Za-z0-9-]{1,40}):((?:(?:\r\n)? [!-~]+)*)\r\n$`)
	wordForm  = regexp.MustCompile(`(\r\n)? ([!-~]+)`)
	codedForm = regexp.MustCompile(`^=\?utf-8\?B\?([A-Za-z0-9+/=]+)\?=$`)
)

// modelPlain is P14.1's Plain by a pattern.
func modelPlain(s string) bool { return plainForm.MatchString(s) && !strings.Contains(s, "=?") }

func goesOn(c byte) bool { return c >= 128 && c <= 191 }

func code(s string) string {
	return "=?utf-8?B?" + base64.StdEncoding.EncodeToString([]byte(s)) + "?="
}

// modelWords is P14.1's Words: of the lengths that a part may have, the shortest are tried first.
func modelWords(s string) []string {
	if modelPlain(s) {
		return strings.Fields(s)
	}
	var words []string
	for len(s) > 45 {
		size := 45
		for _, n := range []int{42, 43, 44, 45} {
			if !goesOn(s[n]) {
				size = n
			}
		}
		words = append(words, code(s[:size]))
		s = s[size:]
	}
	if s != "" {
		words = append(words, code(s))
	}
	return words
}

// modelLine is P14.2's Line, line by line: each has as many of the words that are left as can be, and one at least, but the first one, which may have the name alone.
func modelLine(h api.Header) (string, api.Errno) {
	if !nameForm.MatchString(h.Name) || len(h.Text) > 4000 {
		return "", api.ErrArg
	}
	words := modelWords(h.Text)
	made := h.Name + ":"
	fits := func(ahead string, least int) int {
		n := len(words)
		for n > least && len(ahead)+len(strings.Join(words[:n], " "))+1 > 76 {
			n--
		}
		return n
	}
	for n := fits(made, 0); ; n = fits("", 1) {
		for _, w := range words[:n] {
			made += " " + w
		}
		made += "\r\n"
		if words = words[n:]; len(words) == 0 {
			return made, api.OK
		}
	}
}

// modelRead is P14.2's Read, without a header that is written: lines of the form are checked for what would be written otherwise.
func modelRead(s string) (api.Header, api.Errno) {
	m := lineForm.FindStringSubmatch(s)
	if m == nil {
		return api.Header{}, api.ErrForm
	}
	var words []string
	width := len(m[1]) + 1
	for _, w := range wordForm.FindAllStringSubmatch(m[2], -1) {
		fits := width+1+len(w[2]) <= 76
		if fits == (w[1] != "") {
			return api.Header{}, api.ErrForm
		}
		if !fits {
			width = 0
		}
		width += 1 + len(w[2])
		words = append(words, w[2])
	}
	text, ok := strings.Join(words, " "), true
	if strings.Contains(text, "=?") {
		text, ok = modelDecoded(words)
	}
	if !ok || len(text) > 4000 {
		return api.Header{}, api.ErrForm
	}
	return api.Header{Name: m[1], Text: text}, api.OK
}

// modelDecoded is the text of words that are coded, if it needs that, and is cut into them as it should be.
func modelDecoded(words []string) (string, bool) {
	var all []string
	for _, w := range words {
		m := codedForm.FindStringSubmatch(w)
		if m == nil {
			return "", false
		}
		part, err := base64.StdEncoding.Strict().DecodeString(m[1])
		if err != nil {
			return "", false
		}
		all = append(all, string(part))
	}
	text := strings.Join(all, "")
	behind := text
	for i, part := range all {
		last := i == len(all)-1
		if last != (len(behind) <= 45) {
			return "", false
		}
		if n := len(part); !last {
			torn := goesOn(behind[n])
			for _, c := range []byte(behind[min(n+1, 46):46]) {
				torn = torn || !goesOn(c)
			}
			if n < 42 || n > 45 || torn && (n < 45 || !goesOn(behind[42]) || !goesOn(behind[43]) || !goesOn(behind[44])) {
				return "", false
			}
		}
		behind = behind[len(part):]
	}
	return text, !modelPlain(text)
}

// modelCut is P14.3's Cut, line by line.
func modelCut(s string) ([]api.Header, string, api.Errno) {
	var all []string
	for line := range strings.SplitAfterSeq(s, "\r\n") {
		s = s[len(line):]
		if line == "\r\n" {
			var l []api.Header
			for _, lines := range all {
				h, e := modelRead(lines)
				if e != api.OK || len(all) > 50 {
					return nil, "", api.ErrForm
				}
				l = append(l, h)
			}
			return l, s, api.OK
		}
		if n := len(all); strings.HasPrefix(line, " ") && n > 0 {
			all[n-1] += line
		} else {
			all = append(all, line)
		}
	}
	return nil, "", api.ErrForm
}

// agreesText says whether Plain, Words and a line of a text are what the models say.
func agreesText(t *testing.T, s string) {
	t.Helper()
	if got, want := Plain(s), modelPlain(s); got != want {
		t.Fatalf("Plain(%q) = %t, want %t", s, got, want)
	}
	if got, want := Words(s), modelWords(s); !slices.Equal(got, want) {
		t.Fatalf("Words(%q) = %q, want %q", s, got, want)
	}
	agrees(t, api.Header{Name: "Subject", Text: s})
}

// agrees says whether a header's line is what the model says, and P14.4 holds.
func agrees(t *testing.T, h api.Header) {
	t.Helper()
	want, wrong := modelLine(h)
	got, e := Line(h)
	if string(got) != want || e != wrong {
		t.Fatalf("Line(%q) = %q, %d, want %q, %d", h, got, e, want, wrong)
	}
	if e == api.OK {
		returns(t, h, got)
	}
}

// returns is P14.4: a header's lines are read, and are longer than 76 bytes only if they are one word.
func returns(t *testing.T, h api.Header, b []byte) {
	t.Helper()
	if got, e := Read(b); got != h || e != api.OK {
		t.Fatalf("%q is written as %q, and read as %q, %d", h, b, got, e)
	}
	rest, ended := strings.CutSuffix(string(b), "\r\n")
	for i, line := range strings.Split(rest, "\r\n") {
		if words := strings.Fields(line); len(line) > 76 && (len(words) > 1 && i > 0 || len(words) > 2) {
			t.Fatalf("%q has a line of %d bytes: %q", h, len(line), b)
		}
		if i > 0 && (len(line) < 2 || line[0] != ' ' || line[1] == ' ') {
			t.Fatalf("%q goes on by %q", h, line)
		}
	}
	if !ended {
		t.Fatalf("%q is written without an end: %q", h, b)
	}
}

func agreesRead(t *testing.T, s string) {
	t.Helper()
	want, wrong := modelRead(s)
	if got, e := Read([]byte(s)); got != want || e != wrong {
		t.Fatalf("Read(%q) = %q, %d, want %q, %d", s, got, e, want, wrong)
	}
}

func agreesCut(t *testing.T, s string) {
	t.Helper()
	want, behind, wrong := modelCut(s)
	got, rest, e := Cut([]byte(s))
	if !slices.Equal(got, want) || string(rest) != behind || e != wrong {
		t.Fatalf("Cut(%q) = %q, %q, %d, want %q, %q, %d", s, got, rest, e, want, behind, wrong)
	}
}

// P14.1

func TestPlain(t *testing.T) {
	for _, s := range []string{"a", "~", "!", "a b", "a b c d", "=a ?", "= ?", "?=", "=", "?", "a=", "?a", "==", "??", "=a?", "A-Z: 0", "=.?", strings.Repeat("x", 5000), strings.Repeat("x ", 5000) + "x"} {
		if !Plain(s) {
			t.Errorf("Plain(%.99q) is false", s)
		}
		if got, want := Words(s), strings.Split(s, " "); !slices.Equal(got, want) {
			t.Errorf("Words(%.99q) = %.99q", s, got)
		}
		agreesText(t, s)
	}
	for _, s := range []string{
		"", " ", "  ", "   ", " a", "a ", " a ", "a  b", "a b  c", "a   b", "a  ", "  a",
		"=?", "a=?", "=?a", "a=?b", "a =?b", "a=? b", "==?", "=??", "a b =?utf-8?B?w6k=?=", "a b=?",
		"\t", "a\tb", "a\n", "\na", "a\nb", "a\r\nb", "a\r\n b", "\r", "\x00", "\x1f", "a\x1fb", "\x7f", "a\x7f", "\x80", "\xff", "é", "a é", "\u00a0", "\uff1d?",
	} {
		if Plain(s) {
			t.Errorf("Plain(%q) is true", s)
		}
		agreesText(t, s)
	}
}

func TestWords(t *testing.T) {
	for s, want := range map[string][]string{
		"": nil, "a": {"a"}, "a b": {"a", "b"}, "=a ? b": {"=a", "?", "b"}, "é": {"=?utf-8?B?w6k=?="}, " ": {"=?utf-8?B?IA==?="}, "a  b": {"=?utf-8?B?YSAgYg==?="}, "a ": {"=?utf-8?B?YSA=?="}, " a": {"=?utf-8?B?IGE=?="}, "=?": {"=?utf-8?B?PT8=?="}, "a b\n": {"=?utf-8?B?YSBiCg==?="}, "\x00": {"=?utf-8?B?AA==?="}, "\xff\xff\xff": {"=?utf-8?B?////?="}, "é b": {"=?utf-8?B?w6kgYg==?="},
	} {
		if got := Words(s); !slices.Equal(got, want) {
			t.Errorf("Words(%q) = %q, want %q", s, got, want)
		}
		agreesText(t, s)
	}
}

// Where a text is cut into parts.
func TestPartsOfATextThatIsCoded(t *testing.T) {
	x := func(n int) string { return strings.Repeat("x", n) }
	y := func(n int) string { return strings.Repeat("\x80", n) }
	for _, parts := range [][]string{
		{"\n" + x(43)}, {"\n" + x(44)}, {"\n" + x(44), "x"}, {"\n" + x(44), x(45)}, {"\n" + x(44), x(45), "x"}, {x(45), " "}, {x(44) + " ", " " + x(44), "  "},
		// signs of two, three and four bytes about the end of a part
		{x(43) + "é"}, {x(43) + "é", "x"}, {x(44), "é"}, {x(44), "éé"}, {x(45), "é"}, {x(42) + "€"}, {x(42) + "€", "x"}, {x(43), "€"}, {x(44), "€"}, {x(45), "€"}, {x(41) + "\U0001f4e7"}, {x(41) + "\U0001f4e7", "x"}, {x(42), "\U0001f4e7"}, {x(43), "\U0001f4e7"}, {x(44), "\U0001f4e7"}, {x(45), "\U0001f4e7"},
		{strings.Repeat("é", 22), strings.Repeat("é", 22), "é"}, {strings.Repeat("€", 15), "€"}, {strings.Repeat("\U0001f4e7", 11), strings.Repeat("\U0001f4e7", 11)},
		// bytes that go on: at most three of them are left to the next part, and if they are more, none is
		{x(44), "x\x80"}, {x(43), "x" + y(2)}, {x(42), "x" + y(3)}, {x(42) + y(3), y(1)}, {x(41) + y(4), y(1)}, {x(41) + y(4), y(9)}, {x(41) + "\xf0" + y(3), y(1)}, {y(45)}, {y(45), y(1)}, {y(45), y(45), y(3)}, {y(44), "x" + y(1)}, {y(43), "x" + y(2)}, {y(42), "x" + y(3) + "x"}, {y(41) + "x" + y(3), y(1)}, {y(44) + "x", "x"},
		// beside the bytes that go on
		{x(42), "\x7f\xbf\xbf\xbf"}, {x(42), "\xc0\xbf\x80\xbf"}, {x(44), "\xff\xbf"}, {x(44), "\xff\x80"}, {x(44) + "\xff", "\xff"}, {x(44) + "\xbf", "\xc0"}, {x(44) + "\xbf", "\x7f"}, {x(44) + "\x80", "\x7f"},
		// a part that is the last one is never cut
		{x(44) + "\xc3"}, {x(42) + "\xe2\x80\x80"}, {"\n" + x(41) + y(3)},
	} {
		var want []string
		for _, p := range parts {
			want = append(want, code(p))
		}
		s := strings.Join(parts, "")
		if got := Words(s); !slices.Equal(got, want) {
			t.Errorf("Words(%q) = %q, want %q", s, got, want)
		}
		agreesText(t, s)
	}
}

// Every byte, alone and within others, and about the end of a part.
func TestTextsOfAllBytes(t *testing.T) {
	for c := range 256 {
		b := string([]byte{byte(c)})
		for _, s := range []string{b, "a" + b, b + "a", "a" + b + "b", "a" + b + b + "b", "=" + b + "?", "a " + b, b + " a", "é" + b, b + "é"} {
			agreesText(t, s)
		}
		if got, want := Plain("a"+b+"b"), c >= 32 && c <= 126; got != want {
			t.Errorf("Plain of %q = %t", "a"+b+"b", got)
		}
		for n := 40; n < 48; n++ {
			for behind := range 5 {
				agreesText(t, "\n"+strings.Repeat("x", n)+b+strings.Repeat("\x80", behind)+"x")
				agreesText(t, strings.Repeat("\x80", n)+b+strings.Repeat("\x80", behind))
			}
		}
	}
}

func TestTextsOfAllShort(t *testing.T) {
	for _, some := range [][]string{
		{"a", " ", "=", "?", "\n", "é", "~"},
		{"=?utf-8?B?", "w6k=", "?=", " ", "a", "\xff"},
	} {
		each(some, 5, func(s string) { agreesText(t, s) })
	}
	each([]string{"x", "\x80", "\xc3", "\U0001f4e7", "\n"}, 6, func(s string) {
		agreesText(t, "\n"+strings.Repeat("x", 40)+s)
		agreesText(t, strings.Repeat("\xbf", 42)+s)
	})
}

// A text of whole signs has words of whole signs, each of at most 72 bytes.
func TestWordsOfWholeSigns(t *testing.T) {
	source := rand.New(rand.NewSource(141))
	for range 20000 {
		s := strings.ToValidUTF8(some(source, 12), "") + "\n"
		var whole string
		for _, w := range Words(s) {
			part, err := base64.StdEncoding.DecodeString(strings.TrimSuffix(strings.TrimPrefix(w, "=?utf-8?B?"), "?="))
			if err != nil || !utf8.Valid(part) || len(w) > 72 {
				t.Fatalf("Words(%q) has %q of %d bytes (%v)", s, w, len(w), err)
			}
			whole += string(part)
		}
		if whole != s {
			t.Fatalf("the words of %q are those of %q", s, whole)
		}
	}
}

// P14.2

func TestLine(t *testing.T) {
	x := func(n int) string { return strings.Repeat("x", n) }
	for _, c := range []struct {
		name, text string
		want       []string // without their ends
	}{
		{"Subject", "é", []string{"Subject: =?utf-8?B?w6k=?="}}, {"Subject", "Digest 3: 12 entries", []string{"Subject: Digest 3: 12 entries"}}, {"To", "", []string{"To:"}}, {"To", "a", []string{"To: a"}}, {"0-9", "a b", []string{"0-9: a b"}}, {"-", "-", []string{"-: -"}}, {"A", ":", []string{"A: :"}}, {"A", "a:b", []string{"A: a:b"}}, {"A", " ", []string{"A: =?utf-8?B?IA==?="}}, {"A", "a\r\nB: c", []string{"A: =?utf-8?B?YQ0KQjogYw==?="}},
		// 76 bytes, with the name
		{"S", x(72), []string{"S: " + x(72)}}, {"S", x(73), []string{"S: " + x(73)}}, {"S", x(74), []string{"S:", " " + x(74)}}, {"S", x(73) + " y", []string{"S: " + x(73), " y"}}, {"S", x(71) + " y", []string{"S: " + x(71) + " y"}}, {"S", x(72) + " y", []string{"S: " + x(72), " y"}}, {"S", x(70) + " yy", []string{"S: " + x(70) + " yy"}}, {"S", x(71) + " yy", []string{"S: " + x(71), " yy"}}, {x(40), x(34), []string{x(40) + ": " + x(34)}}, {x(40), x(35), []string{x(40) + ":", " " + x(35)}}, {x(40), "a", []string{x(40) + ": a"}}, {x(40), "", []string{x(40) + ":"}},
		// and without it, with the blank
		{"S", x(74) + " y", []string{"S:", " " + x(74), " y"}}, {"S", x(74) + " " + x(73) + " y", []string{"S:", " " + x(74), " " + x(73) + " y"}}, {"S", x(74) + " " + x(74) + " y", []string{"S:", " " + x(74), " " + x(74), " y"}}, {"S", x(74) + " a " + x(72), []string{"S:", " " + x(74), " a " + x(72)}}, {"S", x(74) + " a " + x(73), []string{"S:", " " + x(74), " a " + x(73)}}, {"S", x(74) + " a " + x(74), []string{"S:", " " + x(74), " a", " " + x(74)}}, {"S", x(74) + " " + x(75) + " y", []string{"S:", " " + x(74), " " + x(75), " y"}},
		// words that no line holds
		{"S", x(75), []string{"S:", " " + x(75)}}, {"S", x(76), []string{"S:", " " + x(76)}}, {"S", x(200), []string{"S:", " " + x(200)}}, {"S", "a " + x(100) + " b", []string{"S: a", " " + x(100), " b"}}, {"S", x(100) + " " + x(100), []string{"S:", " " + x(100), " " + x(100)}}, {"S", x(4000), []string{"S:", " " + x(4000)}},
		// coded ones
		{"SS", "\n" + x(44), []string{"SS: " + code("\n"+x(44))}}, {"SSS", "\n" + x(44), []string{"SSS:", " " + code("\n"+x(44))}}, {"S", "\n" + x(45), []string{"S: " + code("\n"+x(44)), " " + code("x")}}, {"Subject", "\n" + x(45), []string{"Subject:", " " + code("\n"+x(44)), " " + code("x")}}, {"Subject", strings.Repeat("€", 31), []string{"Subject:", " " + code(strings.Repeat("€", 15)), " " + code(strings.Repeat("€", 15)), " " + code("€")}},
	} {
		h, want := api.Header{Name: c.name, Text: c.text}, strings.Join(c.want, "\r\n")+"\r\n"
		if got, e := Line(h); string(got) != want || e != api.OK {
			t.Errorf("Line(%q) = %q, %d, want %q", h, got, e, want)
		}
		if got, e := Read([]byte(want)); got != h || e != api.OK {
			t.Errorf("Read(%q) = %q, %d, want %q", want, got, e, h)
		}
		agrees(t, h)
		agreesRead(t, want)
	}
}

func TestLineOfWhatMayNotBe(t *testing.T) {
	x := func(n int) string { return strings.Repeat("x", n) }
	for _, name := range []string{"", " ", "a b", " a", "a ", "a:", ":", ":a", "a_b", "a.b", "a\n", "\r\n", "a\r\nB", "é", "\u0430", "\uff21", "a\x00", "\x7f", "\xff", x(41), x(5000), x(39) + "é", x(40) + " "} {
		for _, text := range []string{"", "a", "é", x(5000)} {
			if got, e := Line(api.Header{Name: name, Text: text}); len(got) != 0 || e != api.ErrArg {
				t.Errorf("Line of %.99q = %.99q, %d", name, got, e)
			}
		}
	}
	for _, text := range []string{x(4000), strings.Repeat("a ", 1999) + "ab", strings.Repeat("é", 2000), strings.Repeat("\xff", 4000), strings.Repeat(" ", 4000), strings.Repeat("\r\n", 2000), strings.Repeat("=?", 2000)} {
		agrees(t, api.Header{Name: "Subject", Text: text})
		if _, e := Line(api.Header{Name: "Subject", Text: text}); e != api.OK {
			t.Errorf("Line of %.99q: %d", text, e)
		}
		if got, e := Line(api.Header{Name: "Subject", Text: text + "x"}); len(got) != 0 || e != api.ErrArg {
			t.Errorf("Line of %.99q and more: %.99q, %d", text, got, e)
		}
	}
}

// Every byte within a name.
func TestNamesOfAllBytes(t *testing.T) {
	for c := range 256 {
		b := string([]byte{byte(c)})
		for _, name := range []string{b, "a" + b, b + "a", "a" + b + "b"} {
			may := c >= 'a' && c <= 'z' || c >= 'A' && c <= 'Z' || c >= '0' && c <= '9' || c == '-'
			if _, e := Line(api.Header{Name: name, Text: "x"}); (e == api.OK) != may || !may && e != api.ErrArg {
				t.Errorf("Line of %q: %d", name, e)
			}
			agrees(t, api.Header{Name: name})
			agrees(t, api.Header{Name: name, Text: "é"})
			for _, s := range []string{name + ": x\r\n", name + ":\r\n", name + ": =?utf-8?B?w6k=?=\r\n"} {
				agreesRead(t, s)
			}
		}
	}
}

func TestReadOfAnotherForm(t *testing.T) {
	x := func(n int) string { return strings.Repeat("x", n) }
	for _, s := range []string{
		"", "\r\n", "a", "a\r\n", "a:", "a:\n", "a:\r", "a: b", "a: b\n", "a: b\r", "a: b\n\r", "a: b\r\n\r\n", "\r\na: b\r\n", "a: b\r\nc: d\r\n", "a: b\r\r\n", "a: b\r\n\n", "a: b\r\n ", "a: b\r\n \r\n",
		// the name
		": b\r\n", ":\r\n", " : b\r\n", "a : b\r\n", " a: b\r\n", "a b: c\r\n", "a_b: c\r\n", "é: b\r\n", x(41) + ": b\r\n", "a\r\n : b\r\n", "a\r\n:\r\n",
		// blanks
		"a:b\r\n", "a:  b\r\n", "a: b \r\n", "a: \r\n", "a:  \r\n", "a: b  c\r\n", "a:\tb\r\n", "a: b\tc\r\n", "a: b\x00\r\n", "a: é\r\n", "a: \xff\r\n", "a: b\rc\r\n", "a: b\nc\r\n", "a: b\x7f\r\n",
		// lines that go on
		"a:\r\n b\r\n", "a: b\r\n c\r\n", "a: b \r\n c\r\n", "a: b\r\n  c\r\n", "a: b\r\n\tc\r\n", "a:\r\n \r\n", "a: b\n c\r\n", "S:\r\n " + x(73) + "\r\n", "S: " + x(74) + "\r\n", "S:" + x(74) + "\r\n", "S:\r\n" + x(74) + "\r\n", "S: \r\n " + x(74) + "\r\n", "S: " + x(73) + " y\r\n", "S: " + x(73) + "\r\ny\r\n", "S: " + x(73) + "\r\n  y\r\n", "S: " + x(73) + "\r\n y", "S: " + x(71) + "\r\n y\r\n", "S:\r\n\r\n " + x(74) + "\r\n", "S:\r\n " + x(74) + "\r\n \r\n", "S:\r\n " + x(74) + " y\r\n",
		x(40) + ":\r\n a\r\n", "S:\r\n " + x(4001) + "\r\n",
		// coded words: what needs none, is cut elsewhere, or isn't coded so
		"a: =?utf-8?B?YQ==?=\r\n", "a: =?utf-8?B??=\r\n", "a: =?utf-8?B?=\r\n", "a: =?utf-8?B?\r\n", "a: =?\r\n", "a: b=?\r\n", "a: =?utf-8?B?w6k=\r\n", "a: =?utf-8?B?w6k?=\r\n", "a: =?utf-8?B?w6l=?=\r\n", "a: =?utf-8?B?w6k==?=\r\n", "a: =?utf-8?B?w6-=?=\r\n", "a: =?UTF-8?B?w6k=?=\r\n", "a: =?utf-8?b?w6k=?=\r\n", "a: =?utf-8?Q?=C3=A9?=\r\n", "a: =?us-ascii?B?w6k=?=\r\n", "a: =?utf-8?B?w6k=?= \r\n", "a: =?utf-8?B?w6k=?=b\r\n", "a: b=?utf-8?B?w6k=?=\r\n", "a: =?utf-8?B?w6k=?= b\r\n", "a: b =?utf-8?B?w6k=?=\r\n", "a: =?utf-8?B?w6k=?= =?utf-8?B?w6k=?=\r\n", "a: =?utf-8?B?w6k=?==?utf-8?B?w6k=?=\r\n", "a: =?utf-8?B?w6k=?= =?utf-8?B??=\r\n", "a:\r\n =?utf-8?B?w6k=?=\r\n",
		"S: " + code("\n"+x(44)) + " " + code("x") + "\r\n", "S: " + code("\n"+x(43)) + "\r\n " + code("xx") + "\r\n", "S: " + code("\n"+x(45)) + "\r\n", "S: " + code(x(45)) + "\r\n " + code("x") + "\r\n", "S: " + code("\n"+x(43)+"\xc3") + "\r\n " + code("\xa9") + "\r\n", "S: " + code("\n"+x(44)) + "\r\n x\r\n", "SSS: " + code("\n"+x(44)) + "\r\n",
	} {
		if got, e := Read([]byte(s)); got != (api.Header{}) || e != api.ErrForm {
			t.Errorf("Read(%q) = %q, %d", s, got, e)
		}
		agreesRead(t, s)
	}
	if got, e := Read(nil); got != (api.Header{}) || e != api.ErrForm {
		t.Errorf("Read(nil) = %q, %d", got, e)
	}
}

// Texts of more than 4000 bytes, written as a line would be, are none.
func TestReadOfLongTexts(t *testing.T) {
	for n, want := range map[int]api.Errno{3999: api.OK, 4000: api.OK, 4001: api.ErrForm, 4046: api.ErrForm, 9000: api.ErrForm} {
		s := "S:\r\n " + strings.Repeat("x", n) + "\r\n"
		if h, e := Read([]byte(s)); e != want || e == api.OK && len(h.Text) != n {
			t.Errorf("%d bytes: %d, %d", n, len(h.Text), e)
		}
		lines := []string{"S:"}
		for _, w := range modelWords(strings.Repeat("\n", n)) {
			lines = append(lines, w)
		}
		s = "S: " + strings.Join(lines[1:], "\r\n ") + "\r\n"
		if h, e := Read([]byte(s)); e != want || e == api.OK && len(h.Text) != n {
			t.Errorf("%d bytes that are coded: %d, %d", n, len(h.Text), e)
		}
	}
}

func TestReadOfAllShort(t *testing.T) {
	each([]string{"a", ":", " ", "\r\n", "=?", "é"}, 7, func(s string) { agreesRead(t, s) })
	x := strings.Repeat("x", 36)
	each([]string{x, "\r\n", " ", "yy", "z", " " + x}, 5, func(s string) {
		agreesRead(t, "A:"+s+"\r\n")
		agreesRead(t, "A:\r\n "+x+x+"yy"+s+"\r\n")
	})
	each([]string{"=?utf-8?B?", "w6k=", "YQ==", "?=", " ", "\r\n ", "b"}, 6, func(s string) { agreesRead(t, "A: "+s+"\r\n") })
	some := []string{" ", "\r\n ", "x", code("x"), code("é"), code("\n" + strings.Repeat("x", 44)), code("\n" + strings.Repeat("x", 43)), code(strings.Repeat("é", 22)), code(strings.Repeat("\x80", 45))}
	each(some, 5, func(s string) { agreesRead(t, "A:"+s+"\r\n") })
}

// Where bytes of lines are lost, or put in, or others, they are read only if they are of the form yet.
func TestReadOfSpoilt(t *testing.T) {
	source := rand.New(rand.NewSource(142))
	for range 100000 {
		b, _ := Line(someHeader(source))
		agreesRead(t, string(spoilt(source, b)))
	}
}

func spoilt(source *rand.Rand, b []byte) []byte {
	if len(b) == 0 {
		return b
	}
	at := source.Intn(len(b))
	if ends := regexp.MustCompile("\r\n").FindAllIndex(b, -1); source.Intn(2) == 0 && len(ends) > 0 {
		at = min(ends[source.Intn(len(ends))][0]+source.Intn(4), len(b)-1)
	}
	switch piece := parts[source.Intn(len(parts))]; source.Intn(5) {
	case 0:
		return b[:at]
	case 1:
		return slices.Insert(b, at, []byte(piece)...)
	case 2:
		b[at] = piece[0]
		return b
	case 3:
		return slices.Delete(b, at, at+1)
	default:
		return slices.Concat(b[:at], b[max(0, at-source.Intn(3)):])
	}
}

// P14.3

func TestAll(t *testing.T) {
	for _, c := range []struct {
		l    []api.Header
		want string
	}{
		{nil, "\r\n"}, {[]api.Header{}, "\r\n"}, {[]api.Header{{Name: "A"}}, "A:\r\n\r\n"}, {[]api.Header{{Name: "A", Text: "x"}, {Name: "B", Text: "é"}}, "A: x\r\nB: =?utf-8?B?w6k=?=\r\n\r\n"},
		{[]api.Header{{Name: "B"}, {Name: "A"}, {Name: "B"}}, "B:\r\nA:\r\nB:\r\n\r\n"}, {[]api.Header{{Name: "A", Text: strings.Repeat("x", 74)}, {Name: "A", Text: strings.Repeat("x", 73) + " y"}}, "A:\r\n " + strings.Repeat("x", 74) + "\r\nA: " + strings.Repeat("x", 73) + "\r\n y\r\n\r\n"},
	} {
		if got, e := All(c.l); string(got) != c.want || e != api.OK {
			t.Errorf("All(%q) = %q, %d, want %q", c.l, got, e, c.want)
		}
		for _, rest := range []string{"", "rest", "\r\n", "\r\n\r\n", "\n", " ", " x\r\n", "A: b\r\n\r\n", "\x00\xff"} {
			got, behind, e := Cut([]byte(c.want + rest))
			if !slices.Equal(got, c.l) || string(behind) != rest || e != api.OK {
				t.Errorf("Cut(%q) = %q, %q, %d", c.want+rest, got, behind, e)
			}
			agreesCut(t, c.want+rest)
		}
	}
}

func TestAllOfWhatMayNotBe(t *testing.T) {
	good, bad := api.Header{Name: "A", Text: "x"}, api.Header{Name: "A:", Text: "x"}
	for _, l := range [][]api.Header{{bad}, {good, bad}, {bad, good}, {good, bad, good}, {{}}, {{Name: "A", Text: strings.Repeat("x", 4001)}}, append(slices.Repeat([]api.Header{good}, 49), bad)} {
		if got, e := All(l); len(got) != 0 || e != api.ErrArg {
			t.Errorf("All(%.99q) = %.99q, %d", l, got, e)
		}
	}
	// too many are told ahead of what may not be
	for _, n := range []int{51, 52, 100, 1000} {
		for _, h := range []api.Header{good, bad, {}} {
			if got, e := All(slices.Repeat([]api.Header{h}, n)); len(got) != 0 || e != api.ErrOver {
				t.Errorf("All of %d of %q = %.99q, %d", n, h, got, e)
			}
		}
	}
}

// 50 headers, and one more.
func TestMostHeaders(t *testing.T) {
	for n, want := range map[int]api.Errno{49: api.OK, 50: api.OK, 51: api.ErrForm, 52: api.ErrForm, 200: api.ErrForm} {
		l := slices.Repeat([]api.Header{{Name: "A", Text: "x"}}, n)
		if _, e := All(l); (e == api.OK) != (want == api.OK) {
			t.Errorf("All of %d: %d", n, e)
		}
		s := strings.Repeat("A: x\r\n", n) + "\r\n"
		got, rest, e := Cut([]byte(s + "rest"))
		if e != want || e == api.OK && (!slices.Equal(got, l) || string(rest) != "rest") || e != api.OK && (len(got) != 0 || len(rest) != 0) {
			t.Errorf("Cut of %d = %.99q, %q, %d", n, got, rest, e)
		}
		agreesCut(t, s)
	}
}

func TestCutOfAnotherForm(t *testing.T) {
	for _, s := range []string{
		"", "\r", "\n", "\n\r", "a", " ", " \r\n", " \r\n\r\n", "A: x", "A: x\r\n", "A: x\r\n\n", "A: x\r\n\r", "A: x\n\n", "A: x\r\nB", "A: x\r\nB: y\r\n", "A: x\r\nB: y", "A\r\n\r\n", "A: x\r\nB\r\n\r\n", "A x\r\n\r\n", ": x\r\n\r\n", " A: x\r\n\r\n", "\tA: x\r\n\r\n", "A: x\r\n B: y\r\n\r\n", "A: x\r\n \r\n\r\n", "A: x\r\n \r\n", "A: x \r\n\r\n", "A:x\r\n\r\n", "A: \r\n\r\n", "A: x\r\n\tB: y\r\n\r\n", "A: x\nB: y\r\n\r\n", "A: x\rB: y\r\n\r\n", "\nA: x\r\n\r\n", "A:  x\r\nB: y\r\n\r\n", "A: x\r\nB:  y\r\n\r\n", "A: x\r\nB: y\r\nrest", "A: x\r\n\n\r\n", "A: x\r\n\r\r\n\r\n",
		"A: =?utf-8?B?YQ==?=\r\n\r\n", "A: é\r\n\r\n", "A:\r\n x\r\n\r\n", "\n\r\n", "x\r\n\r\n", " x\r\n\r\n", "A: " + strings.Repeat("x", 74) + "\r\n\r\n", "A:\r\n " + strings.Repeat("x", 4001) + "\r\n\r\n",
	} {
		got, rest, e := Cut([]byte(s))
		if len(got) != 0 || len(rest) != 0 || e != api.ErrForm {
			t.Errorf("Cut(%q) = %q, %q, %d", s, got, rest, e)
		}
		agreesCut(t, s)
	}
	if got, rest, e := Cut(nil); len(got) != 0 || len(rest) != 0 || e != api.ErrForm {
		t.Errorf("Cut(nil) = %q, %q, %d", got, rest, e)
	}
}

func TestCutOfAllShort(t *testing.T) {
	each([]string{"a", ": ", ":", " ", "\r\n", "\n"}, 7, func(s string) { agreesCut(t, s) })
	each([]string{"A: x", "B:", "\r\n", " ", "\r", "C: =?utf-8?B?w6k=?="}, 7, func(s string) { agreesCut(t, s) })
}

func TestCutOfSpoilt(t *testing.T) {
	source := rand.New(rand.NewSource(143))
	for range 30000 {
		b, _ := All(headers(source))
		agreesCut(t, string(spoilt(source, append(b, some(source, 3)...))))
	}
}

// P14.4

func TestByChance(t *testing.T) {
	source := rand.New(rand.NewSource(144))
	for range 60000 {
		agrees(t, someHeader(source))
		agreesText(t, some(source, 6))
	}
	for range 1000 {
		agreesText(t, some(source, 60))
	}
	for range 20000 {
		b := make([]byte, source.Intn(200))
		source.Read(b)
		agreesText(t, string(b))
		agreesRead(t, string(b))
		agreesRead(t, "A: "+string(b)+"\r\n")
	}
}

func TestAllIsCut(t *testing.T) {
	source := rand.New(rand.NewSource(145))
	for range 30000 {
		l, rest := headers(source), some(source, 5)
		b, e := All(l)
		if e != api.OK {
			t.Fatalf("All(%q): %d", l, e)
		}
		var lines []byte
		for _, h := range l {
			one, _ := Line(h)
			lines = append(lines, one...)
		}
		if string(b) != string(lines)+"\r\n" {
			t.Fatalf("All(%q) = %q, want %q", l, b, lines)
		}
		got, behind, e := Cut(append(b, rest...))
		if !slices.Equal(got, l) || string(behind) != rest || e != api.OK {
			t.Fatalf("Cut of %q and %q = %q, %q, %d", l, rest, got, behind, e)
		}
	}
}

// What is read is what would be written so, whatever is read.
func TestReadIsWritten(t *testing.T) {
	source := rand.New(rand.NewSource(146))
	pieces := []string{"A", "B", ":", ": ", " ", "x", "xy", "=", "?", "\r\n", "\r\n", "\r\n ", code("é"), code("x"), strings.Repeat("x", 70)}
	read, cut := 0, 0
	for range 400000 {
		s := "A:"
		for range source.Intn(7) {
			s += pieces[source.Intn(len(pieces))]
		}
		s += "\r\n"
		if h, e := Read([]byte(s)); e == api.OK {
			read++
			if b, e := Line(h); string(b) != s || e != api.OK {
				t.Fatalf("Read(%q) = %q, which is written as %q, %d", s, h, b, e)
			}
		}
		if l, rest, e := Cut([]byte(s)); e == api.OK {
			cut++
			if b, e := All(l); string(b)+string(rest) != s || e != api.OK {
				t.Fatalf("Cut(%q) = %q, %q, which is written as %q, %d", s, l, rest, b, e)
			}
		}
	}
	if read < 1000 || cut < 1000 {
		t.Errorf("only %d were read, and %d cut", read, cut)
	}
}

// The library's own reader of mails tells the same headers, where a text is of whole signs.
func TestReadByTheLibrary(t *testing.T) {
	source := rand.New(rand.NewSource(147))
	var decoder mime.WordDecoder
	for range 10000 {
		l := headers(source)
		for i := range l {
			l[i].Name = fmt.Sprintf("X%d", i)
			l[i].Text = strings.ToValidUTF8(l[i].Text, "?")
		}
		b, e := All(l)
		if e != api.OK {
			continue
		}
		m, err := mail.ReadMessage(bytes.NewReader(append(b, "rest"...)))
		if err != nil {
			t.Fatalf("%q isn't read: %v", b, err)
		}
		for _, h := range l {
			if got, err := decoder.DecodeHeader(m.Header.Get(h.Name)); got != h.Text || err != nil {
				t.Fatalf("%q is read as %q (%v): %q", h, got, err, b)
			}
		}
	}
}

// R1, R3 and R5

func TestAskedAgain(t *testing.T) {
	source := rand.New(rand.NewSource(148))
	for range 20000 {
		l := headers(source)
		was := slices.Clone(l)
		b, _ := All(append(l, api.Header{Name: "Last"}))
		b = append(b, some(source, 3)...)
		wasB := bytes.Clone(b)
		b = append(b, "beyond"...)[:len(b)] // what lies behind the list isn't theirs either
		got, rest, e := Cut(b)
		one, e1 := Read(b)
		kept, keptRest := slices.Clone(got), bytes.Clone(rest)
		if !slices.Equal(l, was) || !bytes.Equal(b, wasB) || string(b[len(b):len(b)+6]) != "beyond" {
			t.Fatalf("%q, %q were changed to %q, %q", was, wasB, l, b)
		}
		more, moreRest, _ := Cut(wasB)
		written, _ := All(l)
		words := Words("a b c")
		for _, bytes := range [][]byte{b, moreRest, written} {
			for i := range bytes {
				bytes[i] = '#'
			}
		}
		clear(more)
		clear(words)
		if !slices.Equal(got, kept) || !bytes.Equal(rest, keptRest) || !slices.Equal(l, was) {
			t.Fatalf("what was answered of %q was changed", wasB)
		}
		again, againRest, e2 := Cut(wasB)
		one2, e3 := Read(wasB)
		if !slices.Equal(again, kept) || !bytes.Equal(againRest, keptRest) || e != e2 || one != one2 || e1 != e3 || !slices.Equal(Words("a b c"), []string{"a", "b", "c"}) {
			t.Fatalf("%q is answered otherwise", wasB)
		}
	}
}

// Words are told one by one, and nobody need hear them all.
func TestWordsAreTold(t *testing.T) {
	for _, s := range []string{"a b c", "a\nb", strings.Repeat("é", 100), ""} {
		want := Words(s)
		for n := range len(want) + 2 {
			var got []string
			for w := range words(s) {
				if got = append(got, w); len(got) >= n {
					break
				}
			}
			if most := min(max(n, 1), len(want)); !slices.Equal(got, want[:most]) {
				t.Errorf("%d words of %q: %q", n, s, got)
			}
		}
	}
}

// Texts that are long take no longer than their length.
func TestLongTexts(t *testing.T) {
	const size = 1 << 21
	start := time.Now()
	for _, s := range []string{"x", " ", "x ", "\n", "\r\n", "\r\n ", "\x80", "=?", ":", "A:\r\n", "A: x\r\n", "A: x\r\n y\r\n", "=?utf-8?B?", "=?utf-8?B?w6k=?= ", "=?utf-8?B?w6k=?=\r\n "} {
		long := strings.Repeat(s, size/len(s))
		Plain(long)
		Words(long)
		Line(api.Header{Name: long, Text: long})
		Line(api.Header{Name: "A", Text: long})
		for _, b := range []string{long, "A: " + long, "A: " + long + "\r\n", "A: x\r\n\r\n" + long, "A: " + long + "\r\n\r\n"} {
			Read([]byte(b))
			Cut([]byte(b))
		}
	}
	if took := time.Since(start); took > time.Minute {
		t.Errorf("took %v", took)
	}
}
