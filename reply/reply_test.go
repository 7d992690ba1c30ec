package reply

import (
	"bufio"
	"bytes"
	"fmt"
	"io"
	"math"
	"math/rand"
	"net/textproto"
	"reflect"
	"regexp"
	"slices"
	"strconv"
	"strings"
	"testing"
	"time"

	"mailcoach/api"
)

// each goes through all texts of at most so many of some pieces.
func each(some []string, most int, try func(s string)) {
	var grow func(s string, more int)
	grow = func(s string, more int) {
		try(s)
		if more == 0 {
			return
		}
		for _, p := range some {
			grow(s+p, more-1)
		}
	}
	grow("", most)
}

// The models go by the words of the chapter alone: by patterns, and from each beginning of the bytes to the next.

var (
	linePattern = regexp.MustCompile(`(?s)^([2-5][0-9][0-9])([- ])([^\r\n]*)\r\n$`)
	morePattern = regexp.MustCompile(`^([245])\.(0|[1-9][0-9]{0,2})\.(0|[1-9][0-9]{0,2})(?: |$)`)
)

func modelMore(code int, text string) [3]int {
	found := morePattern.FindStringSubmatch(text)
	if found == nil || found[1] != strconv.Itoa(code)[:1] {
		return [3]int{}
	}
	var more [3]int
	for i := range more {
		more[i], _ = strconv.Atoi(found[i+1])
	}
	return more
}

func modelMay(x api.Reply) bool {
	if x.Code < 200 || x.Code > 599 || len(x.Lines) < 1 || len(x.Lines) > 100 {
		return false
	}
	for i, s := range x.Lines {
		sign := " "
		if i < len(x.Lines)-1 {
			sign = "-"
		}
		if s = fmt.Sprint(x.Code, sign, s, "\r\n"); len(s) > 512 || !linePattern.MatchString(s) {
			return false
		}
	}
	return x.More == modelMore(x.Code, x.Lines[len(x.Lines)-1])
}

func modelWrite(x api.Reply) string {
	code := strconv.Itoa(x.Code)
	s := code + "-" + strings.Join(x.Lines, "\r\n"+code+"-") + "\r\n"
	at := len(s) - len("-\r\n") - len(x.Lines[len(x.Lines)-1])
	return s[:at] + " " + s[at+1:]
}

// modelPut is what a new one tells of all bytes, whether it is bad then, and how many wait.
func modelPut(s string) (l []api.Reply, bad bool, left int) {
	var x api.Reply
	waits, begin := 0, 0
	for i := range len(s) {
		one := s[begin : i+1]
		if s[i] != '\n' {
			if len(one) == 512 {
				return l, true, 0
			}
			continue
		}
		begin = i + 1
		found := linePattern.FindStringSubmatch(one)
		if found == nil || len(one) > 512 {
			return l, true, 0
		}
		code, _ := strconv.Atoi(found[1])
		if len(x.Lines) > 0 && x.Code != code || len(x.Lines) == 100 {
			return l, true, 0
		}
		x.Code, x.Lines, waits = code, append(x.Lines, found[3]), waits+len(one)
		if found[2] == " " {
			x.More = modelMore(code, found[3])
			l = append(l, x)
			x, waits = api.Reply{}, 0
		}
	}
	return l, false, waits + len(s) - begin
}

func same(a, b []api.Reply) bool {
	return slices.EqualFunc(a, b, func(x, y api.Reply) bool {
		return x.Code == y.Code && slices.Equal(x.Lines, y.Lines) && x.More == y.More
	})
}

// agrees holds a Reader to which bytes are put at once, and Read, against the model.
func agrees(t *testing.T, s string) {
	t.Helper()
	want, bad, left := modelPut(s)
	r := New()
	if l := r.Put([]byte(s)); !same(l, want) || r.Bad() != bad || r.Left() != left {
		t.Fatalf("Put(%.2000q) = %.999v, bad %v, left %d, want %.999v, %v, %d", s, l, r.Bad(), r.Left(), want, bad, left)
	}
	wrong := api.OK
	if bad || left > 0 {
		want, wrong = nil, api.ErrForm
	}
	if l, e := Read([]byte(s)); !same(l, want) || e != wrong || e != api.OK && l != nil {
		t.Fatalf("Read(%.2000q) = %.999v, %d, want %.999v, %d", s, l, e, want, wrong)
	}
}

// agreesInPieces holds one to which bytes are put piece by piece against the model, behind each piece.
func agreesInPieces(t *testing.T, pieces ...string) {
	t.Helper()
	r := New()
	var l []api.Reply
	s := ""
	for _, piece := range pieces {
		s += piece
		l = append(l, r.Put([]byte(piece))...)
		want, bad, left := modelPut(s)
		if !same(l, want) || r.Bad() != bad || r.Left() != left {
			t.Fatalf("%.2000q in pieces %.999q: %.999v, bad %v, left %d, want %.999v, %v, %d", s, pieces, l, r.Bad(), r.Left(), want, bad, left)
		}
	}
}

func answer(code int, lines ...string) api.Reply {
	return api.Reply{Code: code, Lines: lines}
}

func enhancedBy(x api.Reply, class, subject, detail int) api.Reply {
	x.More = [3]int{class, subject, detail}
	return x
}

// long is a text of that many bytes.
func long(n int) string { return strings.Repeat("x", n) }

// P17.1

func agreesWrite(t *testing.T, x api.Reply) {
	t.Helper()
	may := modelMay(x)
	if May(x) != may {
		t.Fatalf("May(%.999v) = %v", x, !may)
	}
	b, e := Write(x)
	if !may {
		if b != nil || e != api.ErrArg {
			t.Fatalf("Write(%.999v) = %.999q, %d, want ErrArg", x, b, e)
		}
		return
	}
	if want := modelWrite(x); string(b) != want || e != api.OK {
		t.Fatalf("Write(%.999v) = %.999q, %d, want %.999q", x, b, e, want)
	}
}

func TestMayAndWrite(t *testing.T) {
	for _, c := range []struct {
		x    api.Reply
		want string
	}{
		{answer(250, "a"), "250 a\r\n"},
		{answer(250, ""), "250 \r\n"},
		{answer(200, " "), "200  \r\n"},
		{answer(599, "-"), "599 -\r\n"},
		{answer(354, "3.1.1"), "354 3.1.1\r\n"},
		{answer(250, "a", "b"), "250-a\r\n250 b\r\n"},
		{answer(250, "", "", ""), "250-\r\n250-\r\n250 \r\n"},
		{answer(220, "250 a", "220-b"), "220-250 a\r\n220 220-b\r\n"},
		{answer(500, "\x00\t\x7f\x80\xff\u00e9\u2028\u0085\v\f"), "500 \x00\t\x7f\x80\xff\u00e9\u2028\u0085\v\f\r\n"},
		{enhancedBy(answer(250, "a", "2.0.0 b"), 2, 0, 0), "250-a\r\n250 2.0.0 b\r\n"},
		{enhancedBy(answer(550, "5.7.999"), 5, 7, 999), "550 5.7.999\r\n"},
		{enhancedBy(answer(421, "4.30.2 "), 4, 30, 2), "421 4.30.2 \r\n"},
		{answer(421, "4.3.2 a", "b"), "421-4.3.2 a\r\n421 b\r\n"},
		{answer(250, long(506)), "250 " + long(506) + "\r\n"},
		{answer(250, long(506), long(506)), "250-" + long(506) + "\r\n250 " + long(506) + "\r\n"},
		{answer(299, make([]string, 100)...), strings.Repeat("299-\r\n", 99) + "299 \r\n"},
	} {
		if b, e := Write(c.x); !May(c.x) || string(b) != c.want || e != api.OK {
			t.Errorf("May and Write(%.300v) = %v, %.300q, %d, want %.300q", c.x, May(c.x), b, e, c.want)
		}
		agreesWrite(t, c.x)
	}
}

func TestMayNot(t *testing.T) {
	for _, x := range []api.Reply{
		{}, {Code: 250}, {Code: 250, Lines: []string{}}, {Lines: []string{"a"}},
		answer(199, "a"), answer(600, "a"), answer(0, "a"), answer(-250, "a"), answer(25, "a"), answer(2500, "a"), answer(100, "a"), answer(math.MinInt, "a"), answer(math.MaxInt, "a"), answer(250+1<<32, "a"),
		answer(250, make([]string, 101)...), answer(250, make([]string, 100000)...),
		answer(250, long(507)), answer(250, long(507), "a"), answer(250, "a", long(507)), answer(250, "a", long(507), "b"), answer(250, long(1<<22)), answer(250, strings.Repeat("\u00e9", 254)),
		answer(250, "\r"), answer(250, "\n"), answer(250, "\r\n"), answer(250, "a\r"), answer(250, "\na"), answer(250, "a\nb"), answer(250, "a\r\n250 b"), answer(250, "a\n", "b"), answer(250, "a", "b\r", "c"),
		answer(250, "2.0.0"), answer(250, "2.0.0 a"), answer(550, "a", "5.1.1 b"),
		enhancedBy(answer(250, "a"), 2, 0, 0), enhancedBy(answer(250, "2.0.0 a", "b"), 2, 0, 0), enhancedBy(answer(250, "2.0.0"), 2, 0, 1), enhancedBy(answer(250, "2.0.0"), 2, 1, 0), enhancedBy(answer(250, "2.0.0"), 4, 0, 0), enhancedBy(answer(250, "5.0.0"), 5, 0, 0), enhancedBy(answer(354, "3.0.0"), 3, 0, 0), enhancedBy(answer(250, "2.01.0"), 2, 1, 0), enhancedBy(answer(250, "2.0.0.0"), 2, 0, 0), enhancedBy(answer(250, "2.0"), 2, 0, 0), enhancedBy(answer(250, "2.1.1000"), 2, 1, 1000), enhancedBy(answer(250, "a"), math.MinInt, math.MaxInt, -1),
	} {
		if b, e := Write(x); May(x) || b != nil || e != api.ErrArg {
			t.Errorf("May and Write(%.300v) = %v, %.300q, %d, want ErrArg", x, May(x), b, e)
		}
		agreesWrite(t, x)
	}
}

func TestEdgesOfWhatMay(t *testing.T) {
	for code := -1000; code < 2000; code++ {
		for _, text := range []string{"", "a", "2.1.1", "3.1.1", "4.1.1 ", "5.1.1 a"} {
			x := answer(code, text)
			agreesWrite(t, x)
			if code >= 200 {
				x.More = modelMore(code, text)
				agreesWrite(t, x)
			}
		}
	}
	for n := range 130 {
		x := answer(250, slices.Repeat([]string{"a"}, n)...)
		if May(x) != (n >= 1 && n <= 100) {
			t.Errorf("May of %d lines = %v", n, May(x))
		}
		agreesWrite(t, x)
	}
	for n := range 1100 {
		for _, lines := range [][]string{{long(n)}, {long(n), ""}, {"", long(n)}, {"a", long(n), long(506)}} {
			x := answer(250, lines...)
			if May(x) != (n <= 506) {
				t.Errorf("May of texts of %d bytes = %v", n, May(x))
			}
			agreesWrite(t, x)
		}
	}
	for c := range 256 {
		sign := string([]byte{byte(c)})
		for _, text := range []string{sign, sign + "a", "a" + sign, "a" + sign + "b", long(505) + sign, sign + long(505)} {
			for _, lines := range [][]string{{text}, {text, "a"}, {"a", text}, {"a", text, "b"}} {
				x := answer(250, lines...)
				if May(x) != (c != 10 && c != 13) {
					t.Errorf("May(%q) = %v", lines, May(x))
				}
				agreesWrite(t, x)
			}
		}
	}
}

// agreesMore holds what is enhanced in a text against the model: as it is read, and as it may be.
func agreesMore(t *testing.T, text string) {
	t.Helper()
	for _, code := range []int{200, 250, 299, 300, 354, 400, 421, 500, 550, 599} {
		want := modelMore(code, text)
		for _, s := range []string{fmt.Sprintf("%d %s\r\n", code, text), fmt.Sprintf("%d-2.0.0\r\n%[1]d-\r\n%[1]d %s\r\n", code, text)} {
			if l, e := Read([]byte(s)); len(l) != 1 || l[0].More != want || e != api.OK {
				t.Fatalf("Read(%q) = %v, %d, want %v", s, l, e, want)
			}
		}
		x := answer(code, text)
		for _, more := range [][3]int{want, {}, {code / 100, 0, 0}, {2, 1, 1}, {5, 10, 999}} {
			x.More = more
			if May(x) != (more == want) {
				t.Fatalf("May(%v) = %v", x, May(x))
			}
		}
	}
}

func TestEnhanced(t *testing.T) {
	for _, c := range []struct {
		code int
		text string
		want [3]int
	}{
		{250, "2.0.0", [3]int{2, 0, 0}}, {250, "2.0.0 ", [3]int{2, 0, 0}}, {250, "2.1.5 ok", [3]int{2, 1, 5}}, {250, "2.10.100  2.0.0", [3]int{2, 10, 100}}, {550, "5.999.999", [3]int{5, 999, 999}}, {421, "4.3.2", [3]int{4, 3, 2}}, {200, "2.0.0", [3]int{2, 0, 0}}, {599, "5.0.0", [3]int{5, 0, 0}},
		{250, "5.0.0", [3]int{}}, {550, "2.0.0", [3]int{}}, {421, "5.0.0", [3]int{}}, {354, "3.0.0", [3]int{}}, {354, "2.0.0", [3]int{}}, {250, "250", [3]int{}}, {250, "250.0.0", [3]int{}}, {250, "02.0.0", [3]int{}},
		{250, "", [3]int{}}, {250, " 2.0.0", [3]int{}}, {250, "-2.0.0", [3]int{}}, {250, "2", [3]int{}}, {250, "2.", [3]int{}}, {250, "2.0", [3]int{}}, {250, "2.0.", [3]int{}}, {250, "2..0", [3]int{}}, {250, "2.0. 0", [3]int{}}, {250, "2.0 .0", [3]int{}}, {250, ".0.0", [3]int{}}, {250, "2.0.0.", [3]int{}}, {250, "2.0.0.0", [3]int{}}, {250, "2 0 0", [3]int{}}, {250, "2,0,0", [3]int{}},
		{250, "2.00.0", [3]int{}}, {250, "2.0.00", [3]int{}}, {250, "2.01.0", [3]int{}}, {250, "2.0.01", [3]int{}}, {250, "2.1000.0", [3]int{}}, {250, "2.0.1000", [3]int{}}, {250, "2.0.18446744073709551616", [3]int{}}, {250, "2.0.9223372036854775808", [3]int{}}, {250, "2.+1.0", [3]int{}}, {250, "2.0.-0", [3]int{}}, {250, "2.0.-1", [3]int{}}, {250, "2.0.1_0", [3]int{}}, {250, "2.0.0x1", [3]int{}}, {250, "2.0.1e1", [3]int{}}, {250, "2.0.\u0661", [3]int{}}, {250, "\u0662.0.0", [3]int{}},
		{250, "2.0.0-a", [3]int{}}, {250, "2.0.0a", [3]int{}}, {250, "2.0.0\t", [3]int{}}, {250, "2.0.0\x00", [3]int{}}, {250, "2.0.0\u00a0", [3]int{}}, {250, "a 2.0.0", [3]int{}}, {250, "2.0.0" + long(501), [3]int{}}, {250, "2." + strings.Repeat("0", 500) + ".0", [3]int{}}, {250, strings.Repeat("2.", 253), [3]int{}},
		{250, "2.0.0 " + long(500), [3]int{2, 0, 0}},
	} {
		s := fmt.Sprintf("%d %s\r\n", c.code, c.text)
		if l, e := Read([]byte(s)); len(l) != 1 || l[0].More != c.want || e != api.OK {
			t.Errorf("Read(%q) = %v, %d, want %v", s, l, e, c.want)
		}
		if x := (api.Reply{Code: c.code, Lines: []string{c.text}, More: c.want}); !May(x) {
			t.Errorf("%v may not be", x)
		}
		agreesMore(t, c.text)
	}
	each([]string{"0", "1", "2", "5", ".", " ", "-", "x"}, 5, func(s string) { agreesMore(t, s) })
	each([]string{"0", "1", "9", ".", " ", "+"}, 4, func(s string) {
		for _, class := range []string{"2.", "4.", "5.", "3."} {
			agreesMore(t, class+s)
			agreesMore(t, class+"0."+s)
			agreesMore(t, class+s+".10")
		}
	})
	for c := range 256 {
		if c == 10 || c == 13 {
			continue
		}
		for at := range len("5.10.7 a") + 1 {
			sign := string([]byte{byte(c)})
			agreesMore(t, "5.10.7 a"[:at]+sign+"5.10.7 a"[at:])
			if at < len("5.10.7 a") {
				agreesMore(t, "5.10.7 a"[:at]+sign+"5.10.7 a"[at+1:])
			}
		}
	}
	for n := range 1200 {
		agreesMore(t, fmt.Sprint("2.", n, ".1200"))
		agreesMore(t, fmt.Sprint("4.7.", n))
		agreesMore(t, fmt.Sprint("5.", n, ".", 1200-n, " a"))
	}
}

// P17.2

func TestReader(t *testing.T) {
	r := New()
	if l := r.Put(nil); len(l) != 0 || r.Bad() || r.Left() != 0 {
		t.Errorf("nothing: %v, %v, %d", l, r.Bad(), r.Left())
	}
	for _, c := range []struct {
		s    string
		want []api.Reply
		bad  bool
		left int
	}{
		{"250-a\r\n250 2.0.0 b\r\n35", []api.Reply{enhancedBy(answer(250, "a", "2.0.0 b"), 2, 0, 0)}, false, 2},
		{"", nil, false, 2},
		{"4 go\r\n", []api.Reply{answer(354, "go")}, false, 0},
		{"220 a\r\n221 b\r\n222 \r\n", []api.Reply{answer(220, "a"), answer(221, "b"), answer(222, "")}, false, 0},
		{"500-a\r\n", nil, false, 7},
		{"500-b\r", nil, false, 13},
		{"\n", nil, false, 14},
		{"500 c", nil, false, 19},
		{"\r\n", []api.Reply{answer(500, "a", "b", "c")}, false, 0},
		{"400 a\r\n400-b\r\n401 c\r\n400 d\r\n", []api.Reply{answer(400, "a")}, true, 0},
		{"250 a\r\n", nil, true, 0},
		{"", nil, true, 0},
		{long(100000), nil, true, 0},
	} {
		if l := r.Put([]byte(c.s)); !same(l, c.want) || r.Bad() != c.bad || r.Left() != c.left {
			t.Errorf("Put(%.99q) = %v, bad %v, left %d, want %v, %v, %d", c.s, l, r.Bad(), r.Left(), c.want, c.bad, c.left)
		}
	}
}

// What is bad, with an answer ahead of it, which is told all the same.
func TestBad(t *testing.T) {
	full := strings.Repeat("250-a\r\n", 100)
	for _, s := range []string{
		"\n", "\r\n", "a\n", "250\n", "250\r\n", "250\r\r\n", "25\r\n", "25 a\r\n", "2500 a\r\n", "250a\r\n", "250\ta\r\n", "250_a\r\n", "250+a\r\n", " 250 a\r\n", "-250 a\r\n", "+25 a\r\n", "-25 a\r\n", "2_5 a\r\n", "0x2 a\r\n", "2e1 a\r\n", "2.5 a\r\n", "25a a\r\n", "a50 a\r\n", "\u0662 a\r\n",
		"199 a\r\n", "100 a\r\n", "099 a\r\n", "000 a\r\n", "600 a\r\n", "999 a\r\n", "199-a\r\n", "600-a\r\n",
		"250 a\n", "250 a\r\r\n", "250 a\rb\r\n", "250\r a\r\n", "\r250 a\r\n", "250 \r\r\n", "250 a\n\r", "250 a\r\n\n", "250 a\r\n\r\n",
		"250-a\r\n251 b\r\n", "250-a\r\n251-b\r\n", "250-a\r\n250-b\r\n350 c\r\n", "250-a\r\nb\r\n", "250-a\r\n250\r\n", "250-a\r\n250b\r\n", "250-a\r\n\r\n", "250-a\r\n250 b\n", "250-a\r\n 250 b\r\n", "250-a\n250 b\r\n",
		full + "250 a\r\n", full + "250-a\r\n", full + "251 a\r\n", full + "\r\n", full + long(512),
		"250 " + long(507) + "\r\n", "250-" + long(507) + "\r\n", "250 " + long(508), "250-a\r\n250 " + long(508), long(512), strings.Repeat("\r", 512), strings.Repeat("250 a\r", 100), long(511) + "\n", long(100000), "250 " + long(506) + "\r\r", "250 " + long(507) + "\r", "250 " + long(100000) + "\r\n",
	} {
		for _, ahead := range []string{"", "220 a\r\n"} {
			for _, behind := range []string{"", "250 a\r\n", "250-a\r\n", "x"} {
				all := ahead + s + behind
				agrees(t, all)
				r := New()
				r.Put([]byte(all))
				if !r.Bad() || r.Left() != 0 {
					t.Errorf("Put(%.99q): bad %v, left %d", all, r.Bad(), r.Left())
				}
				for _, more := range []string{"", "250 a\r\n", "\n", "250 ", "a\r\n"} {
					if l := r.Put([]byte(more)); len(l) != 0 || !r.Bad() || r.Left() != 0 {
						t.Errorf("Put(%q) behind %.99q = %v, bad %v, left %d", more, all, l, r.Bad(), r.Left())
					}
				}
				if l, e := Read([]byte(all)); l != nil || e != api.ErrForm {
					t.Errorf("Read(%.99q) = %v, %d", all, l, e)
				}
			}
		}
	}
}

// What can't be told yet, as its line has no end and fewer than 512 bytes: it waits, whatever it is.
func TestWaits(t *testing.T) {
	full := strings.Repeat("250-a\r\n", 100)
	for _, s := range []string{
		"2", "25", "250", "250 ", "250 a", "250 a\r", "250-", "250-a", "250-a\r", "250-a\r\n", "250-a\r\n2", "250-a\r\n250 b\r",
		"1", "a", "\r", "199 a\r", "600", "250a", "250 a\rb", "250 \r\r", "250-a\r\n251 b\r", "250-a\r\n3", full, full + "250 a\r", full + "x",
		long(511), strings.Repeat("\r", 511), "250 " + long(506) + "\r", "250 " + long(507), "250-a\r\n" + long(511),
	} {
		for _, ahead := range []string{"", "220 a\r\n", "220-a\r\n220 b\r\n354 c\r\n"} {
			agrees(t, ahead+s)
			r := New()
			if r.Put([]byte(ahead + s)); r.Bad() || r.Left() != len(s) {
				t.Errorf("Put(%.99q): bad %v, left %d, want %d", ahead+s, r.Bad(), r.Left(), len(s))
			}
			if l, e := Read([]byte(ahead + s)); l != nil || e != api.ErrForm {
				t.Errorf("Read(%.99q) = %v, %d", ahead+s, l, e)
			}
		}
	}
}

func TestEdgesOfLines(t *testing.T) {
	for n := 500; n < 520; n++ {
		for _, s := range []string{long(n), "250 " + long(n), "250-" + long(n), strings.Repeat("\r", n)} {
			for _, end := range []string{"", "\r", "\n", "\r\n", "\n\r", "\r\r\n", "x\r\n"} {
				for _, ahead := range []string{"", "250 a\r\n", "250-a\r\n"} {
					agrees(t, ahead+s+end)
					agrees(t, ahead+s+end+"250 a\r\n")
					agreesInPieces(t, ahead, s, end, "250 a\r\n", s, end)
					agreesInPieces(t, ahead+s[:n/2], s[n/2:]+end, "250 a", "\r\n")
				}
			}
		}
	}
	for n := range 104 {
		for _, s := range []string{"250 a\r\n", "250-a\r\n", "251 a\r\n", "250 ", "250 a\n", "x\r\n"} {
			many := strings.Repeat("250-"+long(n)+"\r\n", n)
			agrees(t, many+s)
			agrees(t, "220 a\r\n"+many+s+"221 a\r\n")
			agreesInPieces(t, many, s, "250 a\r\n", many, s)
		}
	}
	for code := range 1000 {
		three := fmt.Sprintf("%03d", code)
		for _, s := range []string{three + " a\r\n", three + "-a\r\n" + three + " b\r\n", "250-a\r\n" + three + " b\r\n", "250-a\r\n" + three + "-b\r\n"} {
			agrees(t, s)
		}
	}
}

func TestAllBytesAtAllPlaces(t *testing.T) {
	for _, s := range []string{"250 a\r\n", "250-a\r\n250 2.0.0 b\r\n", "220 a\r\n550 5.1.1\r\n"} {
		for at := range len(s) + 1 {
			for c := range 256 {
				sign := string([]byte{byte(c)})
				agrees(t, s[:at]+sign+s[at:])
				if at < len(s) {
					agrees(t, s[:at]+sign+s[at+1:])
				}
				agreesInPieces(t, s[:at], sign, s[at:])
			}
			for to := at; to <= len(s); to++ {
				agrees(t, s[:at]+s[to:])
				agrees(t, s[:to]+s[at:])
			}
		}
	}
}

func TestAllShortBytes(t *testing.T) {
	each([]string{"250", "251", "-", " ", "a", "\r", "\n"}, 6, func(s string) { agrees(t, s) })
	each([]string{"250 ", "250-", "251 ", "a", "2.0.0", "\r\n", "\n"}, 6, func(s string) { agrees(t, s) })
	each([]string{"250 a\r\n", "250-b\r\n", "354 \r\n", "354-\r\n", "25", "\n"}, 6, func(s string) { agrees(t, s) })
	each([]string{"1", "2", "5", "6", "0", " "}, 5, func(s string) { agrees(t, s+" a\r\n") })
}

func TestNoReader(t *testing.T) {
	var none *Reader
	for _, s := range []string{"", "250 a\r\n", "2", "\n"} {
		if l := none.Put([]byte(s)); len(l) != 0 || !none.Bad() || none.Left() != 0 {
			t.Errorf("nil: Put(%q) = %v, bad %v, left %d", s, l, none.Bad(), none.Left())
		}
	}
	if r := new(Reader); r.Bad() || r.Left() != 0 || len(r.Put([]byte("250 a\r\n2"))) != 1 || r.Left() != 1 {
		t.Error("one that is all noughts is not new")
	}
}

// P17.3

func TestRead(t *testing.T) {
	for s, want := range map[string][]api.Reply{
		"":                                  nil,
		"250-a\r\n250 2.0.0 b\r\n":          {enhancedBy(answer(250, "a", "2.0.0 b"), 2, 0, 0)},
		"220 \r\n":                          {answer(220, "")},
		"220 a\r\n250 b\r\n550 5.1.1 c\r\n": {answer(220, "a"), answer(250, "b"), enhancedBy(answer(550, "5.1.1 c"), 5, 1, 1)},
		"250 a\r\n250 a\r\n":                {answer(250, "a"), answer(250, "a")},
		"250-250 a\r\n250  \r\n":            {answer(250, "250 a", " ")},
		"250---\r\n250 -\r\n":               {answer(250, "--", "-")},
		"250-2.0.0 a\r\n250 b\r\n":          {answer(250, "2.0.0 a", "b")},
		"599 \xff\x00\x80\r\n":              {answer(599, "\xff\x00\x80")},
		"200 " + long(506) + "\r\n":         {answer(200, long(506))},
		strings.Repeat("250-\r\n", 99) + "250 \r\n": {answer(250, make([]string, 100)...)},
	} {
		if l, e := Read([]byte(s)); !same(l, want) || e != api.OK {
			t.Errorf("Read(%.99q) = %.300v, %d, want %.300v", s, l, e, want)
		}
	}
	if l, e := Read(nil); len(l) != 0 || e != api.OK {
		t.Errorf("Read(nil) = %v, %d", l, e)
	}
}

// P17.4

// someAnswer is one that may be, by chance.
func someAnswer(source *rand.Rand) api.Reply {
	scraps := []string{"a", "word ", " ", "-", ".", "0", "2.0.0", "5.1.1 ", "4.2.100 ", "250 ", "250-", "\x00", "\t", "\xff", "\u00e9", "\u2028", long(50), long(200)}
	x := api.Reply{Code: 200 + source.Intn(400)}
	for range 1 + source.Intn(1<<source.Intn(7)) {
		s := ""
		for range source.Intn(5) {
			s += scraps[source.Intn(len(scraps))]
		}
		if source.Intn(40) == 0 {
			s = long(500 + source.Intn(7))
		}
		x.Lines = append(x.Lines, s[:min(len(s), 506)])
	}
	if last := len(x.Lines) - 1; source.Intn(2) == 0 {
		x.Lines[last] = fmt.Sprintf("%d.%d.%d", x.Code/100, source.Intn(12), source.Intn(1100))
	}
	x.More = modelMore(x.Code, x.Lines[len(x.Lines)-1])
	return x
}

// someAnswers are some, and their bytes.
func someAnswers(t *testing.T, source *rand.Rand) ([]api.Reply, string) {
	t.Helper()
	var l []api.Reply
	s := ""
	for range source.Intn(6) {
		x := someAnswer(source)
		agreesWrite(t, x)
		b, e := Write(x)
		if e != api.OK {
			t.Fatalf("Write(%.999v): %d", x, e)
		}
		l, s = append(l, x), s+string(b)
	}
	return l, s
}

// somePieces are bytes cut by chance.
func somePieces(source *rand.Rand, s string) []string {
	var pieces []string
	size := 1 << source.Intn(11)
	for len(s) > 0 {
		n := min(source.Intn(size+1), len(s))
		pieces, s = append(pieces, s[:n]), s[n:]
	}
	return pieces
}

// putAll is what one tells of pieces, one behind the other.
func putAll(r *Reader, pieces []string) []api.Reply {
	var l []api.Reply
	for _, piece := range pieces {
		l = append(l, r.Put([]byte(piece))...)
	}
	return l
}

func spoilt(source *rand.Rand, s string) string {
	pieces := []string{"\r", "\n", "\r\n", "250 ", "250-", "251 ", "-", " ", "a", "0", "\x00", long(300), long(600)}
	for range 1 + source.Intn(2) {
		from := source.Intn(len(s) + 1)
		upto := min(len(s), from+source.Intn(4))
		s = s[:from] + pieces[source.Intn(len(pieces))] + s[upto:]
	}
	return s
}

func TestCutByChance(t *testing.T) {
	source := rand.New(rand.NewSource(174))
	for range 3000 {
		l, s := someAnswers(t, source)
		agrees(t, s)
		if got, e := Read([]byte(s)); !same(got, l) || e != api.OK {
			t.Fatalf("Read(%.999q) = %.999v, %d, want %.999v", s, got, e, l)
		}
		for _, s := range []string{s, spoilt(source, s), s[:source.Intn(len(s)+1)]} {
			want, bad, left := modelPut(s)
			agrees(t, s)
			for range 4 {
				r, pieces := New(), somePieces(source, s)
				if got := putAll(r, pieces); !same(got, want) || r.Bad() != bad || r.Left() != left {
					t.Fatalf("%.999q in pieces %.999q: %.999v, bad %v, left %d, want %.999v, %v, %d", s, pieces, got, r.Bad(), r.Left(), want, bad, left)
				}
			}
		}
	}
}

// Short ones, cut in all ways.
func TestCutInAllWays(t *testing.T) {
	for _, s := range []string{"250-a\r\n250 \r\n", "25 a\r\n250 b\r\n", "250 \r\n251 \n", "250 \r\r\n250 ", "220 \r\n354 a\r"} {
		for ways := range 1 << (len(s) - 1) {
			var pieces []string
			begin := 0
			for i := 1; i <= len(s); i++ {
				if i == len(s) || ways>>(i-1)&1 == 1 {
					pieces, begin = append(pieces, s[begin:i]), i
				}
			}
			r := New()
			want, bad, left := modelPut(s)
			if got := putAll(r, pieces); !same(got, want) || r.Bad() != bad || r.Left() != left {
				t.Fatalf("%q in pieces %q: %v, bad %v, left %d, want %v, %v, %d", s, pieces, got, r.Bad(), r.Left(), want, bad, left)
			}
		}
	}
	for _, s := range []string{"250-a\r\n250 2.0.0 b\r\n354 \r\n", "250-a\r\n251 2.0.0 b\r\n354 \r\n", "220 a\r\n" + long(520), "220 a\r\n250 " + long(506) + "\r\n220 ", "220-a\r\n220 " + long(507) + "\r\n"} {
		for i := range len(s) + 1 {
			for j := i; j <= len(s); j += 1 + j%7 {
				agreesInPieces(t, s[:i], s[i:j], s[j:])
			}
		}
	}
}

// What is written is read, also by the library.
func TestWrittenIsRead(t *testing.T) {
	source := rand.New(rand.NewSource(175))
	for range 3000 {
		l, s := someAnswers(t, source)
		got, e := Read([]byte(s))
		if !same(got, l) || e != api.OK {
			t.Fatalf("Read(%.999q) = %.999v, %d, want %.999v", s, got, e, l)
		}
		again := ""
		for _, x := range got {
			b, _ := Write(x)
			again += string(b)
		}
		if again != s {
			t.Fatalf("%.999q is read, and written %.999q", s, again)
		}
		library := textproto.NewReader(bufio.NewReader(strings.NewReader(s)))
		for _, x := range l {
			code, text, err := library.ReadResponse(0)
			if code != x.Code || text != strings.Join(x.Lines, "\n") || err != nil {
				t.Fatalf("the library reads %d, %.999q, %v of %.999v", code, text, err, x)
			}
		}
		if _, _, err := library.ReadResponse(0); err != io.EOF {
			t.Fatalf("the library reads more than %.999v: %v", l, err)
		}
	}
}

// Bytes by chance, near to answers: what is read is written again just so.
func TestReadIsWritten(t *testing.T) {
	source := rand.New(rand.NewSource(176))
	scraps := []string{"250 ", "250-", "251 ", "199 ", "a", "2.0.0", " ", "\r\n", "\r\n", "\r\n", "\r", "\n"}
	read := 0
	for range 100000 {
		s := ""
		for range source.Intn(9) {
			s += scraps[source.Intn(len(scraps))]
		}
		agrees(t, s)
		l, e := Read([]byte(s))
		if e != api.OK {
			continue
		}
		read++
		var again []byte
		for _, x := range l {
			b, e := Write(x)
			if e != api.OK || !May(x) {
				t.Fatalf("%v is read of %q, but may not be", x, s)
			}
			again = append(again, b...)
		}
		if string(again) != s {
			t.Fatalf("%q is read, and written %q", s, again)
		}
	}
	if read < 10000 {
		t.Errorf("only %d were answers", read)
	}
}

// R1, R3, R5

func TestHandedInStays(t *testing.T) {
	whole := []byte("250-a\r\n250 2.0.0 b\r\n354-c\r\n354-d#####")
	b := whole[:len(whole)-5]
	r := New()
	l := r.Put(b)
	if string(whole) != "250-a\r\n250 2.0.0 b\r\n354-c\r\n354-d#####" {
		t.Errorf("Put changed %q", whole)
	}
	for i := range whole {
		whole[i] = '!'
	}
	want := []api.Reply{enhancedBy(answer(250, "a", "2.0.0 b"), 2, 0, 0)}
	if !same(l, want) {
		t.Errorf("the answer hangs on what was handed in: %v", l)
	}
	more := r.Put([]byte("\r\n354 e\r\n"))
	if !same(more, []api.Reply{answer(354, "c", "d", "e")}) {
		t.Errorf("what waits hangs on what was handed in: %v", more)
	}
	x := answer(250, "a", "b")
	out, _ := Write(x)
	for i := range out {
		out[i] = '!'
	}
	if again, _ := Write(x); !same([]api.Reply{x}, []api.Reply{answer(250, "a", "b")}) || string(again) != "250-a\r\n250 b\r\n" {
		t.Errorf("%v, %q", x, again)
	}
}

func TestAnsweredIsTheCallersOwn(t *testing.T) {
	r := New()
	l := r.Put([]byte("250-a\r\n250 b\r\n250-c\r\n250-d\r\n250 e\r\n221-f\r\n"))
	for i := range l {
		for j := range l[i].Lines {
			l[i].Lines[j] = "spoilt"
		}
		_ = append(l[i].Lines, "spoilt", "spoilt")
		_ = append(l[i].Lines[:0], "spoilt")
		_ = append(l[:i], answer(500, "spoilt"))
	}
	if more := r.Put([]byte("221-g\r\n221 h\r\n220 i\r\n")); r.Bad() || !same(more, []api.Reply{answer(221, "f", "g", "h"), answer(220, "i")}) {
		t.Errorf("what is told hangs on what was told ahead: %v", more)
	}
	first, _ := Read([]byte("250-a\r\n250 b\r\n251-c\r\n251 d\r\n"))
	first[0].Lines[0], first[0].Lines = "spoilt", append(first[0].Lines, "spoilt")
	if !same(first[1:], []api.Reply{answer(251, "c", "d")}) {
		t.Errorf("two answers share their lines: %v", first)
	}
}

// A reader hangs on nothing but what was put to it.
func TestReadersApart(t *testing.T) {
	source := rand.New(rand.NewSource(177))
	for range 300 {
		readers, given, got := [4]*Reader{}, [4]string{}, [4][]api.Reply{}
		for i := range readers {
			readers[i] = New()
		}
		for range 40 {
			i := source.Intn(4)
			piece := []string{"250-a\r\n", "250 b\r\n", "250 ", "c\r\n", "2", "50", "\r\n", "x\r\n"}[source.Intn(8)]
			got[i] = append(got[i], readers[i].Put([]byte(piece))...)
			given[i] += piece
		}
		for i, r := range readers {
			want, bad, left := modelPut(given[i])
			if !same(got[i], want) || r.Bad() != bad || r.Left() != left {
				t.Fatalf("%q: %v, bad %v, left %d, want %v, %v, %d", given[i], got[i], r.Bad(), r.Left(), want, bad, left)
			}
		}
	}
	a, _ := Read([]byte("250-a\r\n250 b\r\n"))
	b, _ := Read([]byte("250-a\r\n250 b\r\n"))
	if !reflect.DeepEqual(a, b) {
		t.Errorf("%v, %v", a, b)
	}
}

// Many bytes end in good time, also one by one, and what is put in vain is not kept.
func TestManyBytes(t *testing.T) {
	begun := time.Now()
	most := bytes.Repeat([]byte("250-"+long(506)+"\r\n"), 99)
	most = append(most, "250 "+long(506)+"\r\n"...)
	r := New()
	told := 0
	for range 20 {
		for i := range most {
			told += len(r.Put(most[i : i+1]))
			if i == len(most)-2 && r.Left() != 51199 {
				t.Fatalf("%d wait", r.Left())
			}
		}
	}
	if told != 20 || r.Bad() || r.Left() != 0 {
		t.Errorf("byte by byte: %d, bad %v, left %d", told, r.Bad(), r.Left())
	}
	if l, e := Read(bytes.Repeat(most, 200)); len(l) != 200 || len(l[199].Lines) != 100 || e != api.OK {
		t.Errorf("at once: %d, %d", len(l), e)
	}
	if l, e := Read(bytes.Repeat([]byte("250 \r\n"), 1<<20)); len(l) != 1<<20 || e != api.OK {
		t.Errorf("at once: %d, %d", len(l), e)
	}
	for _, s := range []string{"x", "\r", "\n", "250-", "250-\r", "250-\r\n"} {
		r := New()
		r.Put(bytes.Repeat([]byte(s), 1<<22))
		if !r.Bad() || r.Left() != 0 {
			t.Errorf("many %q: bad %v, left %d", s, r.Bad(), r.Left())
		}
		for range 1000 {
			r.Put(most)
		}
	}
	if took := time.Since(begun); took > 30*time.Second {
		t.Errorf("it took %v", took)
	}
}
