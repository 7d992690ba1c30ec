package dot

import (
	"bufio"
	"bytes"
	"io"
	"math/rand"
	"net/textproto"
	"regexp"
	"slices"
	"strings"
	"testing"
	"time"

	"mailcoach/api"
)

// each goes through all texts of at most so many of some pieces.
func each(some []string, most int, try func(s string)) {
	var grow func(s string, more int)
	grow = func(s string, more int) {
		try(s)
		if more == 0 {
			return
		}
		for _, p := range some {
			grow(s+p, more-1)
		}
	}
	grow("", most)
}

// The models go by the words of the chapter alone: by patterns, and by all beginnings of the bytes.

var (
	mayPattern  = regexp.MustCompile(`\A(?:[^\r\n]*\r\n)*\z`)
	sentPattern = regexp.MustCompile(`\A((?:(?:\.\.[^\r\n]*|[^.\r\n][^\r\n]*)?\r\n)*)\.\r\n\z`)
	firstDot    = regexp.MustCompile(`(?m)^\.`)
)

func modelStuff(s string) (string, api.Errno) {
	if !mayPattern.MatchString(s) {
		return "", api.ErrArg
	}
	return firstDot.ReplaceAllString(s, "..") + ".\r\n", api.OK
}

func modelUnstuff(s string) (string, api.Errno) {
	found := sentPattern.FindStringSubmatch(s)
	if found == nil {
		return "", api.ErrForm
	}
	return firstDot.ReplaceAllString(found[1], ""), api.OK
}

func modelEnd(s string) int {
	for n := range len(s) + 1 {
		if s[:n] == ".\r\n" || strings.HasSuffix(s[:n], "\r\n.\r\n") {
			return n
		}
	}
	return -1
}

// agrees holds all four calls against the models, and P18.4.
func agrees(t *testing.T, s string) {
	t.Helper()
	want, wrong := modelStuff(s)
	if May([]byte(s)) != (wrong == api.OK) {
		t.Fatalf("May(%.999q) = %v", s, wrong != api.OK)
	}
	sent, e := Stuff([]byte(s))
	if string(sent) != want || e != wrong || e != api.OK && sent != nil {
		t.Fatalf("Stuff(%.999q) = %.999q, %d, want %.999q, %d", s, sent, e, want, wrong)
	}
	if e == api.OK {
		endsThere(t, s, string(sent))
	}
	want, wrong = modelUnstuff(s)
	mail, e := Unstuff([]byte(s))
	if string(mail) != want || e != wrong || e != api.OK && mail != nil {
		t.Fatalf("Unstuff(%.999q) = %.999q, %d, want %.999q, %d", s, mail, e, want, wrong)
	}
	if e == api.OK {
		endsThere(t, string(mail), s)
	}
	if n := End([]byte(s)); n != modelEnd(s) {
		t.Fatalf("End(%.999q) = %d, want %d", s, n, modelEnd(s))
	}
}

// endsThere is P18.4 of a mail and how it is sent, and that each is that of the other.
func endsThere(t *testing.T, mail, sent string) {
	t.Helper()
	for _, behind := range []string{"", "x", ".", "\r\n", "\n", ".\r\n", "\r\n.\r\n", sent} {
		if n := End([]byte(sent + behind)); n != len(sent) {
			t.Fatalf("End(%.999q) = %d, want %d", sent+behind, n, len(sent))
		}
	}
	if got, e := Stuff([]byte(mail)); string(got) != sent || e != api.OK {
		t.Fatalf("Stuff(%.999q) = %.999q, %d, want %.999q", mail, got, e, sent)
	}
	if got, e := Unstuff([]byte(sent)); string(got) != mail || e != api.OK {
		t.Fatalf("Unstuff(%.999q) = %.999q, %d, want %.999q", sent, got, e, mail)
	}
	if !May([]byte(mail)) || !May([]byte(sent)) {
		t.Fatalf("%.999q, sent as %.999q, may not be", mail, sent)
	}
}

// P18.1

func TestMay(t *testing.T) {
	for _, s := range []string{
		"", "\r\n", "a\r\n", " \r\n", ".\r\n", "..\r\n", "a\r\nb\r\n", "\r\n\r\n", "a\r\n\r\nb\r\n", "a\r\n.\r\nb\r\n", "QUIT\r\n",
		"\x00\r\n", "\t\v\f\r\n", "\x7f\x80\xff\r\n", "\u00e9\u2028\u0085\r\n", "\xe2\x80\r\n", strings.Repeat("x", 2000) + "\r\n",
	} {
		if !May([]byte(s)) {
			t.Errorf("May(%.99q) = false", s)
		}
		agrees(t, s)
	}
	if !May(nil) {
		t.Error("May(nil) = false")
	}
}

// mayNot are bytes that are no lines.
var mayNot = []string{
	"a", ".", "\r", "\n", "\n\r", "a\r", "a\n", "a\n\r", "\r\r", "\n\n", "\x00", " ", "\x0d\x00\x0a",
	"a\r\nb", "a\r\n.", "a\r\n\r", "a\r\n\n", "\r\n\r", "\r\n\n", "\r\n ", "a\r\n.\r", "a\r\n.\n",
	"\r\r\n", "\n\r\n", "a\r\r\n", "a\n\r\n", "a\rb\r\n", "a\nb\r\n", "\ra\r\n", "\na\r\n", "a\r\n\r\r\n", "a\r\n\n\r\n", "a\r\nb\rc\r\n", "a\r\nb\nc\r\n", "\r\n\r\r\n", "a\n.\r\n", "a\r.\r\n", "\n.\r\n", ".\r.\r\n",
	"a\nb\r\nc\r\n", "\r\r\na\r\n",
}

func TestMayNot(t *testing.T) {
	for _, s := range mayNot {
		for _, ahead := range []string{"", "a\r\n", "\r\n", ".\r\n"} {
			if May([]byte(ahead + s)) {
				t.Errorf("May(%q) = true", ahead+s)
			}
			if b, e := Stuff([]byte(ahead + s)); b != nil || e != api.ErrArg {
				t.Errorf("Stuff(%q) = %q, %d, want ErrArg", ahead+s, b, e)
			}
			agrees(t, ahead+s)
		}
	}
}

// P18.2

func TestStuffAndUnstuff(t *testing.T) {
	for mail, sent := range map[string]string{
		"":                              ".\r\n",
		".a\r\n":                        "..a\r\n.\r\n",
		"a\r\n":                         "a\r\n.\r\n",
		"\r\n":                          "\r\n.\r\n",
		"\r\n\r\n":                      "\r\n\r\n.\r\n",
		".\r\n":                         "..\r\n.\r\n",
		"..\r\n":                        "...\r\n.\r\n",
		"...\r\n":                       "....\r\n.\r\n",
		".\r\n.\r\n":                    "..\r\n..\r\n.\r\n",
		"..\r\n.\r\n":                   "...\r\n..\r\n.\r\n",
		"a\r\n.\r\nb\r\n":               "a\r\n..\r\nb\r\n.\r\n",
		"a\r\n.b\r\n..c\r\n.\r\n\r\n":   "a\r\n..b\r\n...c\r\n..\r\n\r\n.\r\n",
		"a.\r\n.\r\n\r\n":               "a.\r\n..\r\n\r\n.\r\n",
		"a.b.\r\n .\r\n. \r\n":          "a.b.\r\n .\r\n.. \r\n.\r\n",
		"\x00.\r\n.\x00\r\n\t.\r\n":     "\x00.\r\n..\x00\r\n\t.\r\n.\r\n",
		".\xff\r\n\xff.\r\n.\u00e9\r\n": "..\xff\r\n\xff.\r\n..\u00e9\r\n.\r\n",
		"\u2028.\r\n\u0085.\r\n\v.\r\n": "\u2028.\r\n\u0085.\r\n\v.\r\n.\r\n",
	} {
		if b, e := Stuff([]byte(mail)); string(b) != sent || e != api.OK {
			t.Errorf("Stuff(%q) = %q, %d, want %q", mail, b, e, sent)
		}
		if b, e := Unstuff([]byte(sent)); string(b) != mail || e != api.OK {
			t.Errorf("Unstuff(%q) = %q, %d, want %q", sent, b, e, mail)
		}
		agrees(t, mail)
		agrees(t, sent)
	}
	if b, e := Stuff(nil); string(b) != ".\r\n" || e != api.OK {
		t.Errorf("Stuff(nil) = %q, %d", b, e)
	}
}

func TestUnstuffOfAnotherForm(t *testing.T) {
	for _, s := range []string{
		// no last line, or not whole
		"", ".", ".\r", ".\n", "\r\n", "a\r\n", "..\r\n", "...\r\n", "a.\r\n", " .\r\n", ". \r\n", "\x00.\r\n", "a\r\n.", "a\r\n.\r", "a\r\n.\n", "a\r\n..\r\n", "a\r\n\r\n", "a\r\n .\r\n",
		// lines that begin by one dot
		".a\r\n.\r\n", ".a\r\n", "a\r\n.b\r\n.\r\n", ". \r\n.\r\n", ".a.\r\n.\r\n", "..\r\n.a\r\n.\r\n", ".\x00\r\n.\r\n",
		// bytes behind it
		".\r\n.\r\n", ".\r\n\r\n", ".\r\na\r\n", ".\r\na\r\n.\r\n", "a\r\n.\r\nb\r\n.\r\n", "a\r\n.\r\n.\r\n", ".\r\nx", ".\r\n.", ".\r\n\n", ".\r\n\r\n.\r\n", ".\r\n..\r\n.\r\n", ".\r\n..\r\n",
		// lines of another form
		"a\n.\r\n", "\n.\r\n", "\r.\r\n", "\r\r\n.\r\n", "\n\r\n.\r\n", "a\rb\r\n.\r\n", "a\nb\r\n.\r\n", "a\r\r\n.\r\n", ".\r\r\n", ".\n\r\n", "..\r\r\n.\r\n", "..\n.\r\n", "a\n.\n", ".\r.\r\n", "a\r\n.\r.\r\n", "a\r\n\n.\r\n", "a\r\n\r.\r\n",
	} {
		if b, e := Unstuff([]byte(s)); b != nil || e != api.ErrForm {
			t.Errorf("Unstuff(%q) = %q, %d, want ErrForm", s, b, e)
		}
		agrees(t, s)
	}
	for _, s := range mayNot {
		for _, sent := range []string{s, s + ".\r\n", "a\r\n" + s, ".\r\n" + s} {
			if b, e := Unstuff([]byte(sent)); b != nil || e != api.ErrForm {
				t.Errorf("Unstuff(%q) = %q, %d, want ErrForm", sent, b, e)
			}
		}
	}
	if b, e := Unstuff(nil); b != nil || e != api.ErrForm {
		t.Errorf("Unstuff(nil) = %q, %d, want ErrForm", b, e)
	}
}

// By the chapter's words alone: all short bytes are stuffed, and what none of them is sent as is of another form.
func TestUnstuffIsStuffTurned(t *testing.T) {
	isTurned(t, []string{".", "a", "\r", "\n"}, 9)
	isTurned(t, []string{".", "a", "\r\n"}, 11)
}

func isTurned(t *testing.T, pieces []string, most int) {
	t.Helper()
	mails := map[string]string{}
	// The last line is two pieces at least.
	each(pieces, most-2, func(mail string) {
		b, e := Stuff([]byte(mail))
		if e != api.OK {
			return
		}
		if other, ok := mails[string(b)]; ok {
			t.Fatalf("%q and %q are both sent as %q", mail, other, b)
		}
		mails[string(b)] = mail
	})
	read := 0
	each(pieces, most, func(sent string) {
		b, e := Unstuff([]byte(sent))
		mail, ok := mails[sent]
		if ok != (e == api.OK) || string(b) != mail || !ok && (e != api.ErrForm || b != nil) {
			t.Fatalf("Unstuff(%q) = %q, %d, want %q, %v", sent, b, e, mail, ok)
		}
		if ok {
			read++
		}
	})
	if read < 30 {
		t.Errorf("only %d were mails", read)
	}
}

// P18.3

func TestEnd(t *testing.T) {
	for s, want := range map[string]int{
		".\r\n": 3, "a\r\n.\r\n": 6, "\r\n.\r\n": 5, "..\r\n.\r\n": 7, "a\r\n\r\n.\r\n": 8,
		// what stands behind it
		".\r\nx": 3, ".\r\n.\r\n": 3, ".\r\n\r\n": 3, ".\r\n.": 3, ".\r\n\n": 3, "a\r\n.\r\nb": 6, "a\r\n.\r\nb\r\n.\r\n": 6, "a\r\n.\r\n.\r\n": 6,
		// lines that may not be are lines all the same
		".a\r\n.\r\n": 7, ".a\r\n": -1, "\r\r\n.\r\n": 6, "\n\r\n.\r\n": 6, "a\nb\r\n.\r\n": 8, "a\r.\r\n.\r\n": 8, ".\n\r\n.\r\n": 7, ".\r\r\n.\r\n": 7, "\xff\r\n.\r\n": 6, "a\r\n\r\r\n.\r\n.": 9,
		// none
		"": -1, ".": -1, ".\r": -1, ".\n": -1, "\r\n": -1, "\r\n.": -1, "\r\n.\r": -1, "\r\n.\n": -1, "a": -1, "a\r\n": -1, "a.\r\n": -1, "..\r\n": -1, "...\r\n": -1, " .\r\n": -1, ". \r\n": -1, ".\n\r\n": -1, ".\r\r\n": -1, "\x00.\r\n": -1, ".\x00\r\n": -1, "a\r\n..\r\n": -1, "\xff.\r\n": -1,
		// a 13 or a 10 alone ends no line
		"\n.\r\n": -1, "\r.\r\n": -1, "a\n.\r\n": -1, "a\r.\r\n": -1, "a\n.\n": -1, "\n\r.\r\n": -1, "\r\n\n.\r\n": -1, "\r\n\r.\r\n": -1, ".\n.\r\n": -1, ".\r.\r\n": -1,
	} {
		if n := End([]byte(s)); n != want {
			t.Errorf("End(%q) = %d, want %d", s, n, want)
		}
		agrees(t, s)
	}
	if n := End(nil); n != -1 {
		t.Errorf("End(nil) = %d", n)
	}
}

// All short bytes, all bytes at all places, and many by chance, for all calls.

func TestAllShortBytes(t *testing.T) {
	each([]string{".", "a", "\r", "\n"}, 8, func(s string) { agrees(t, s) })
	each([]string{".", "a", "\r\n"}, 9, func(s string) { agrees(t, s) })
	each([]string{".\r\n", "..\r\n", "a\r\n", ".", "\r", "\n"}, 6, func(s string) { agrees(t, s) })
}

func TestAllBytesAtAllPlaces(t *testing.T) {
	for _, s := range []string{"", "a\r\n", ".a\r\n", ".\r\n", "..\r\n.\r\n", "..a\r\n\r\nb.\r\n.\r\n"} {
		for at := range len(s) + 1 {
			for c := range 256 {
				sign := string([]byte{byte(c)})
				agrees(t, s[:at]+sign+s[at:])
				if at < len(s) {
					agrees(t, s[:at]+sign+s[at+1:])
				}
			}
			for to := at; to <= len(s); to++ {
				agrees(t, s[:at]+s[to:])
				agrees(t, s[:to]+s[at:])
			}
		}
	}
	// A line of any byte may be, but of 13 and 10.
	for c := range 256 {
		sign := string([]byte{byte(c)})
		for _, s := range []string{sign, sign + "a", "a" + sign, "." + sign, sign + "."} {
			if may := c != 13 && c != 10; May([]byte(s+"\r\n")) != may {
				t.Errorf("May(%q) = %v", s+"\r\n", !may)
			}
		}
	}
}

// someMail is one that may be, by chance.
func someMail(source *rand.Rand) string {
	scraps := []string{".", "..", "a", " ", "word ", "\x00", "\xff", "\u00e9", "\u2028", strings.Repeat("x", 80), strings.Repeat(".", 80)}
	var s strings.Builder
	for range source.Intn(1 << source.Intn(7)) {
		for range source.Intn(4) {
			s.WriteString(scraps[source.Intn(len(scraps))])
		}
		s.WriteString("\r\n")
	}
	return s.String()
}

func spoilt(source *rand.Rand, s string) string {
	pieces := []string{"", "\r", "\n", "\r\n", ".", "..", ".\r\n", "\r\n.\r\n", "a", "\x00"}
	for range 1 + source.Intn(2) {
		from := source.Intn(len(s) + 1)
		upto := min(len(s), from+source.Intn(4))
		s = s[:from] + pieces[source.Intn(len(pieces))] + s[upto:]
	}
	return s
}

func TestByChance(t *testing.T) {
	source := rand.New(rand.NewSource(181))
	for range 10000 {
		mail := someMail(source)
		sent, _ := modelStuff(mail)
		for _, s := range []string{mail, sent, spoilt(source, mail), spoilt(source, sent), sent[:source.Intn(len(sent)+1)], mail + sent} {
			agrees(t, s)
		}
	}
}

// P18.4

// Mails that are sent one behind the other are told apart by their ends.
func TestEndsOneBehindTheOther(t *testing.T) {
	source := rand.New(rand.NewSource(182))
	for range 3000 {
		var mails []string
		var sent []byte
		for range source.Intn(6) {
			mail := someMail(source)
			b, e := Stuff([]byte(mail))
			if e != api.OK {
				t.Fatalf("Stuff(%.999q): %d", mail, e)
			}
			mails, sent = append(mails, mail), append(sent, b...)
		}
		var got []string
		for rest := sent; len(rest) > 0; {
			n := End(rest)
			if n < 0 {
				t.Fatalf("no end in %.999q", rest)
			}
			mail, e := Unstuff(rest[:n])
			if e != api.OK {
				t.Fatalf("Unstuff(%.999q): %d", rest[:n], e)
			}
			got, rest = append(got, string(mail)), rest[n:]
		}
		if !slices.Equal(got, mails) {
			t.Fatalf("%.999q is taken apart as %.999q, of %.999q", sent, got, mails)
		}
	}
}

// What isn't whole yet has no end, wherever it was cut.
func TestCutHasNoEnd(t *testing.T) {
	source := rand.New(rand.NewSource(183))
	for range 300 {
		mail := someMail(source)
		sent, _ := Stuff([]byte(mail))
		for n := range sent {
			if got := End(sent[:n]); got != -1 {
				t.Fatalf("End(%.999q) = %d, want -1", sent[:n], got)
			}
			if b, e := Unstuff(sent[:n]); b != nil || e != api.ErrForm {
				t.Fatalf("Unstuff(%.999q) = %.999q, %d, want ErrForm", sent[:n], b, e)
			}
		}
	}
}

// The library sends a mail just so (but one of no line, ahead of which it sends an empty one), and takes from it as much.
func TestAgainstTheLibrary(t *testing.T) {
	source := rand.New(rand.NewSource(184))
	for range 3000 {
		mail := someMail(source)
		sent, e := Stuff([]byte(mail))
		if e != api.OK {
			t.Fatalf("Stuff(%.999q): %d", mail, e)
		}
		if mail != "" && librarySends(t, mail) != string(sent) {
			t.Fatalf("Stuff(%.999q) = %.999q, the library sends %.999q", mail, sent, librarySends(t, mail))
		}
		const behind = "250 a\r\n.\r\n"
		under := bufio.NewReader(strings.NewReader(string(sent) + behind))
		got, err := io.ReadAll(textproto.NewReader(under).DotReader())
		if string(got) != strings.ReplaceAll(mail, "\r\n", "\n") || err != nil {
			t.Fatalf("the library takes %.999q, %v from %.999q", got, err, sent)
		}
		if rest, _ := io.ReadAll(under); string(rest) != behind {
			t.Fatalf("the library leaves %.999q behind %.999q", rest, sent)
		}
	}
}

func librarySends(t *testing.T, mail string) string {
	t.Helper()
	var made bytes.Buffer
	out := bufio.NewWriter(&made)
	w := textproto.NewWriter(out).DotWriter()
	if _, err := io.WriteString(w, mail); err != nil {
		t.Fatal(err)
	}
	if err := w.Close(); err != nil {
		t.Fatal(err)
	}
	return made.String()
}

// R1, R3, R5

func TestHandedInStays(t *testing.T) {
	const was = "..a\r\n..\r\nb\r\n.\r\n.c\r\n#####"
	whole := []byte(was)
	for i := range whole {
		for j := i; j <= len(whole); j++ {
			b := whole[i:j]
			sent, _ := Stuff(b)
			mail, _ := Unstuff(b)
			May(b)
			End(b)
			for _, answer := range [][]byte{sent, mail} {
				for k := range answer {
					answer[k] = '!'
				}
				_ = append(answer, "!!!!!"...)
			}
			if string(whole) != was {
				t.Fatalf("of %d to %d: %q was changed to %q", i, j, was, whole)
			}
		}
	}
}

func TestAnsweredIsTheCallersOwn(t *testing.T) {
	for _, s := range []string{"", "a\r\n", ".a\r\n\r\n", "..\r\n"} {
		b := []byte(s)
		sent, _ := Stuff(b)
		want := string(sent)
		for i := range b {
			b[i] = '!'
		}
		if string(sent) != want {
			t.Errorf("Stuff(%q) hangs on what was handed in: %q", s, sent)
		}
		again := []byte(want)
		mail, e := Unstuff(again)
		for i := range again {
			again[i] = '!'
		}
		if string(mail) != s || e != api.OK {
			t.Errorf("Unstuff(%q) hangs on what was handed in: %q, %d", want, mail, e)
		}
		for i := range sent {
			sent[i] = '!'
		}
		_ = append(sent[:0], "!!!!!"...)
		if next, e := Stuff([]byte(s)); string(next) != want || e != api.OK {
			t.Errorf("Stuff(%q) hangs on what was answered ahead: %q, %d", s, next, e)
		}
	}
}

// Many bytes end in good time.
func TestManyBytes(t *testing.T) {
	const size = 1 << 20
	begun := time.Now()
	for _, s := range []string{"x", ".", "\r", "\n", "\r\n", ".\r\n", "..\r\n", "\n\r", ".a\r\n", "\r\r\n", strings.Repeat("x", 998) + "\r\n"} {
		long := strings.Repeat(s, size/len(s))
		sent, e := Stuff([]byte(long))
		want, wrong := modelStuff(long)
		if string(sent) != want || e != wrong || May([]byte(long)) != (wrong == api.OK) {
			t.Errorf("Stuff of many %.9q: %d bytes, %d, want %d, %d", s, len(sent), e, len(want), wrong)
		}
		for _, b := range []string{long, long + ".\r\n", long + "\r\n.\r\n", string(sent)} {
			mail, e := Unstuff([]byte(b))
			if want, wrong := modelUnstuff(b); string(mail) != want || e != wrong {
				t.Errorf("Unstuff of many %.9q: %d bytes, %d, want %d, %d", s, len(mail), e, len(want), wrong)
			}
			if n := End([]byte(b)); n != modelEnd(b) {
				t.Errorf("End of many %.9q: %d, want %d", s, n, modelEnd(b))
			}
		}
	}
	if took := time.Since(begun); took > time.Minute {
		t.Errorf("it took %v", took)
	}
}
