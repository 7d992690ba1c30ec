package part

import (
	"bytes"
	"fmt"
	"io"
	"math/rand"
	"mime/multipart"
	"regexp"
	"slices"
	"strings"
	"testing"
	"time"

	"mailcoach/api"
	"mailcoach/qp"
)

// each goes through all texts of at most so many of some pieces.
func each(some []string, most int, try func(s string)) {
	var grow func(s string, more int)
	grow = func(s string, more int) {
		try(s)
		if more == 0 {
			return
		}
		for _, p := range some {
			grow(s+p, more-1)
		}
	}
	grow("", most)
}

// scraps are what bodies, and what is joined, are made of or spoilt by.
var scraps = []string{
	"a", "b", "Z", "0", "1", "9", " ", "\t", "\n", "\r", "\r\n", "\r\n\r\n", "=", "_", "=_", "=_0", "=_1", "=_2", "=_00", "=_10", "=5F", "=3D_0", "=\r\n", "-", "--", "--=_0", "--=_0--", "--=_0\r\n", "\r\n--=_0\r\n", "\r\n--=_0--\r\n",
	"Content-Type: text/plain\r\n", "Content-Type: a\r\nContent-Transfer-Encoding: quoted-printable\r\n\r\n", "Content-Transfer-Encoding: quoted-printable", "\x00", "\x7f", "\x80", "\xff", "\u00e9", "\u20ac",
	strings.Repeat("x", 30), strings.Repeat("y", 74), strings.Repeat("=", 25),
}

// some are bytes by chance.
func some(source *rand.Rand, most int) string {
	var s strings.Builder
	for range source.Intn(most + 1) {
		s.WriteString(scraps[source.Intn(len(scraps))])
	}
	return s.String()
}

const kindBytes = "abcdefghijklmnopqrstuvwxyz0123456789/-=; "

// someKind is one by chance, which may be.
func someKind(source *rand.Rand) string {
	for {
		kind := make([]byte, 1+source.Intn(60))
		for i := range kind {
			kind[i] = kindBytes[source.Intn(len(kindBytes))]
		}
		if modelKind(string(kind)) {
			return string(kind)
		}
	}
}

// someParts are kinds and bodies by chance, which may be joined.
func someParts(source *rand.Rand) ([]string, [][]byte) {
	var kinds []string
	var l [][]byte
	for range 1 + source.Intn(8) {
		kinds = append(kinds, someKind(source))
		l = append(l, []byte(some(source, 8)))
	}
	return kinds, l
}

func bytesOf(texts ...string) [][]byte {
	var l [][]byte
	for _, s := range texts {
		l = append(l, []byte(s))
	}
	return l
}

var kindForm = regexp.MustCompile(`^[a-z0-9/=;-]+(?: [a-z0-9/=;-]+)*$`)

func modelKind(s string) bool { return kindForm.MatchString(s) && len(s) <= 60 }

// modelBoundary is P15.1 as it stands, boundary by boundary.
func modelBoundary(texts []string) string {
	for n := 0; ; n++ {
		x := fmt.Sprint("=_", n)
		if !slices.ContainsFunc(texts, func(s string) bool { return strings.Contains(s, x) }) {
			return x
		}
	}
}

const headersEnd = "\r\nContent-Transfer-Encoding: quoted-printable\r\n\r\n"

// modelJoin is P15.2 with its boundary written out, as quoted text has =_ nowhere.
func modelJoin(kinds []string, l [][]byte) (string, string, api.Errno) {
	if len(kinds) < 1 || len(kinds) > 8 || len(kinds) != len(l) {
		return "", "", api.ErrArg
	}
	var all strings.Builder
	for i, kind := range kinds {
		if !modelKind(kind) {
			return "", "", api.ErrArg
		}
		all.WriteString("--=_0\r\nContent-Type: " + kind + headersEnd + string(qp.Encode(l[i])) + "\r\n")
	}
	return all.String() + "--=_0--\r\n", "=_0", api.OK
}

// modelSplit is P15.3 without what is joined again: from line to line.
func modelSplit(s, boundary string) ([]string, []string, api.Errno) {
	wrong := func() ([]string, []string, api.Errno) { return nil, nil, api.ErrForm }
	s, ended := strings.CutSuffix(s, "\r\n--=_0--\r\n")
	s, begun := strings.CutPrefix(s, "--=_0\r\n")
	if !ended || !begun || boundary != "=_0" {
		return wrong()
	}
	var kinds, l []string
	for piece := range strings.SplitSeq(s, "\r\n--=_0\r\n") {
		headers, code, ok := strings.Cut(piece, headersEnd)
		kind, named := strings.CutPrefix(headers, "Content-Type: ")
		body, e := qp.Decode([]byte(code))
		if !ok || !named || !modelKind(kind) || e != api.OK || string(qp.Encode(body)) != code {
			return wrong()
		}
		kinds = append(kinds, kind)
		l = append(l, string(body))
	}
	if len(kinds) > 8 {
		return wrong()
	}
	return kinds, l, api.OK
}

func agreesBoundary(t *testing.T, texts ...string) {
	t.Helper()
	if got, want := Boundary(bytesOf(texts...)), modelBoundary(texts); got != want {
		t.Fatalf("Boundary(%q) = %q, want %q", texts, got, want)
	}
}

// agrees says whether what is joined is what the model says, and P15.4 holds.
func agrees(t *testing.T, kinds []string, l [][]byte) {
	t.Helper()
	want, boundary, wrong := modelJoin(kinds, l)
	got, x, e := Join(kinds, l)
	if string(got) != want || x != boundary || e != wrong {
		t.Fatalf("Join(%q, %q) = %q, %q, %d, want %q, %q, %d", kinds, l, got, x, e, want, boundary, wrong)
	}
	if e == api.OK {
		returns(t, kinds, l)
	}
}

// returns is P15.4: what is joined is split, and no body has the boundary in it; and the library's reader finds the same parts.
func returns(t *testing.T, kinds []string, l [][]byte) {
	t.Helper()
	b, x, _ := Join(kinds, l)
	gotKinds, got, e := Split(b, x)
	if !slices.Equal(gotKinds, kinds) || !slices.EqualFunc(got, l, bytes.Equal) || e != api.OK {
		t.Fatalf("%q of %q are joined as %q, and split as %q, %q, %d", l, kinds, b, gotKinds, got, e)
	}
	for _, body := range l {
		if bytes.Contains(qp.Encode(body), []byte(x)) {
			t.Fatalf("%q has the boundary %q in it", body, x)
		}
	}
	if n := bytes.Count(b, []byte(x)); n != len(l)+1 {
		t.Fatalf("%q has the boundary %d times", b, n)
	}
	reader := multipart.NewReader(bytes.NewReader(b), x)
	for i, kind := range kinds {
		p, err := reader.NextPart()
		if err != nil {
			t.Fatalf("%q, part %d: %v", b, i, err)
		}
		body, err := io.ReadAll(p)
		if want := strings.ReplaceAll(string(l[i]), "\n", "\r\n"); string(body) != want || err != nil {
			t.Fatalf("%q, part %d is read as %q, %v, want %q", b, i, body, err, want)
		}
		if h := p.Header; len(h) != 1 || h.Get("Content-Type") != kind { // the reader takes the other header off, as it decodes
			t.Fatalf("%q, part %d has headers %q", b, i, h)
		}
	}
	if p, err := reader.NextPart(); err != io.EOF {
		t.Fatalf("%q has one more part: %v, %v", b, p, err)
	}
}

func agreesSplit(t *testing.T, s, boundary string) {
	t.Helper()
	wantKinds, want, wrong := modelSplit(s, boundary)
	kinds, l, e := Split([]byte(s), boundary)
	if !slices.Equal(kinds, wantKinds) || !slices.EqualFunc(l, bytesOf(want...), bytes.Equal) || e != wrong {
		t.Fatalf("Split(%q, %q) = %q, %q, %d, want %q, %q, %d", s, boundary, kinds, l, e, wantKinds, want, wrong)
	}
}

// P15.1

func TestBoundary(t *testing.T) {
	for _, c := range []struct {
		l    []string
		want string
	}{
		{nil, "=_0"},
		{[]string{""}, "=_0"},
		{[]string{"", "", ""}, "=_0"},
		{[]string{"="}, "=_0"},
		{[]string{"_0"}, "=_0"},
		{[]string{"=", "_0"}, "=_0"},
		{[]string{"=_", "0"}, "=_0"},
		{[]string{"=_"}, "=_0"},
		{[]string{"=_a"}, "=_0"},
		{[]string{"= _0"}, "=_0"},
		{[]string{"=-0"}, "=_0"},
		{[]string{"=__0"}, "=_0"},
		{[]string{"=_ 0"}, "=_0"},
		{[]string{"=_-0"}, "=_0"},
		{[]string{"=_/", "=_:"}, "=_0"},
		{[]string{"=_1"}, "=_0"},
		{[]string{"=_0"}, "=_1"},
		{[]string{"x=_0y"}, "=_1"},
		{[]string{"==_0"}, "=_1"},
		{[]string{"=_=_0"}, "=_1"},
		{[]string{"\n--=_0--\n"}, "=_1"},
		{[]string{"=_00"}, "=_1"},
		{[]string{"=_01"}, "=_1"},
		{[]string{"=_01=_1"}, "=_2"},
		{[]string{"", "=_0"}, "=_1"},
		{[]string{"=_0", "=_0"}, "=_1"},
		{[]string{"=_0", "=_1"}, "=_2"},
		{[]string{"=_1", "=_0"}, "=_2"},
		{[]string{"=_0=_1"}, "=_2"},
		{[]string{"=_1=_0=_3"}, "=_2"},
		{[]string{"=_0", "x=_1y", "=_3"}, "=_2"},
		{[]string{"=_10"}, "=_0"},
		{[]string{"=_10", "=_0"}, "=_2"},
		{[]string{"=_0=_12345"}, "=_2"},
		{[]string{"=_0=_1=_2=_3=_4=_5=_6=_7=_8"}, "=_9"},
		{[]string{"=_0=_1=_2=_3=_4=_5=_6=_7=_8=_9"}, "=_10"},
		{[]string{"=_0=_10=_2=_3=_4=_5=_6=_7=_8=_9"}, "=_11"},
		{[]string{"=_0=_11=_2=_3=_4=_5=_6=_7=_8=_9"}, "=_10"},
		{[]string{"=_0=_100=_2=_3=_4=_5=_6=_7=_8=_9=_110"}, "=_12"},
		{[]string{"=_" + strings.Repeat("9", 100)}, "=_0"},
		{[]string{"=_0=_1" + strings.Repeat("9", 100)}, "=_2"},
		{[]string{"=_18446744073709551616"}, "=_0"},
		{[]string{"=_0", "=_18446744073709551617"}, "=_2"},
		{[]string{"=_\xd9\xa0"}, "=_0"},
		{[]string{"\xff=_0\xff"}, "=_1"},
	} {
		if got := Boundary(bytesOf(c.l...)); got != c.want {
			t.Errorf("Boundary(%q) = %q, want %q", c.l, got, c.want)
		}
		agreesBoundary(t, c.l...)
	}
	if x := Boundary([][]byte{nil, []byte("=_0"), nil}); x != "=_1" {
		t.Errorf("Boundary of bodies that are nil too = %q", x)
	}
}

// All numbers up to one, but some, in one body or in many.
func TestManyNumbers(t *testing.T) {
	for _, n := range []int{1, 9, 10, 11, 99, 100, 101, 999, 1000, 1200} {
		for _, gap := range []int{-1, 0, 1, 5, 9, 10, 77, 99, 100, 998, 999, 1000, 1199} {
			var l []string
			for i := range n {
				if i != gap && i/10 != gap && i/100 != gap && i/1000 != gap {
					l = append(l, fmt.Sprint("=_", i))
				}
			}
			agreesBoundary(t, l...)
			agreesBoundary(t, strings.Join(l, ""))
			slices.Reverse(l)
			agreesBoundary(t, l...)
			agreesBoundary(t, strings.Join(l, "\r\n"))
		}
	}
}

func TestAllShortTexts(t *testing.T) {
	each([]string{"=", "_", "0", "1", "2"}, 7, func(s string) {
		agreesBoundary(t, s)
	})
	each([]string{"=_0", "=_1", "=_2", "3", "0", "=_", "|"}, 6, func(s string) {
		agreesBoundary(t, strings.Split(s, "|")...)
	})
}

func TestBoundariesByChance(t *testing.T) {
	source := rand.New(rand.NewSource(151))
	pieces := []string{"=_", "=_", "=", "_", "0", "1", "2", "3", "4", "5", "6", "7", "8", "9", "00", "10", " "}
	for range 50000 {
		var l []string
		for range source.Intn(4) {
			var s strings.Builder
			for range source.Intn(40) {
				s.WriteString(pieces[source.Intn(len(pieces))])
			}
			l = append(l, s.String())
		}
		agreesBoundary(t, l...)
	}
	for range 3000 {
		var s strings.Builder
		for range 400 {
			fmt.Fprint(&s, "=_", source.Intn(100))
		}
		agreesBoundary(t, s.String())
	}
}

// P15.2

func TestJoin(t *testing.T) {
	for _, c := range []struct {
		kinds, l []string
		want     string
	}{
		{[]string{"text/plain"}, []string{"a"}, "--=_0\r\nContent-Type: text/plain\r\nContent-Transfer-Encoding: quoted-printable\r\n\r\na\r\n--=_0--\r\n"},
		{[]string{"text/plain"}, []string{""}, "--=_0\r\nContent-Type: text/plain\r\nContent-Transfer-Encoding: quoted-printable\r\n\r\n\r\n--=_0--\r\n"},
		{[]string{"text/plain"}, []string{"\n"}, "--=_0\r\nContent-Type: text/plain\r\nContent-Transfer-Encoding: quoted-printable\r\n\r\n\r\n\r\n--=_0--\r\n"},
		{[]string{"a"}, []string{"b\n--=_0--\n"}, "--=_0\r\nContent-Type: a\r\nContent-Transfer-Encoding: quoted-printable\r\n\r\nb\r\n--=3D_0--\r\n\r\n--=_0--\r\n"},
		{[]string{"a"}, []string{"--"}, "--=_0\r\nContent-Type: a\r\nContent-Transfer-Encoding: quoted-printable\r\n\r\n--\r\n--=_0--\r\n"},
		{[]string{"a"}, []string{"\u00e9 "}, "--=_0\r\nContent-Type: a\r\nContent-Transfer-Encoding: quoted-printable\r\n\r\n=C3=A9=20\r\n--=_0--\r\n"},
		{
			[]string{"text/plain; charset=utf-8", "text/html; charset=utf-8"}, []string{"a\n", "<p>a</p>\n"},
			"--=_0\r\nContent-Type: text/plain; charset=utf-8\r\nContent-Transfer-Encoding: quoted-printable\r\n\r\na\r\n\r\n" +
				"--=_0\r\nContent-Type: text/html; charset=utf-8\r\nContent-Transfer-Encoding: quoted-printable\r\n\r\n<p>a</p>\r\n\r\n--=_0--\r\n",
		},
		{
			[]string{"a", "a", "="}, []string{"", "", "\r"},
			"--=_0\r\nContent-Type: a\r\nContent-Transfer-Encoding: quoted-printable\r\n\r\n\r\n" +
				"--=_0\r\nContent-Type: a\r\nContent-Transfer-Encoding: quoted-printable\r\n\r\n\r\n" +
				"--=_0\r\nContent-Type: =\r\nContent-Transfer-Encoding: quoted-printable\r\n\r\n=0D\r\n--=_0--\r\n",
		},
	} {
		if got, x, e := Join(c.kinds, bytesOf(c.l...)); string(got) != c.want || x != "=_0" || e != api.OK {
			t.Errorf("Join(%q, %q) = %q, %q, %d, want %q", c.kinds, c.l, got, x, e, c.want)
		}
		agrees(t, c.kinds, bytesOf(c.l...))
	}
}

func TestKinds(t *testing.T) {
	one := [][]byte{[]byte("x")}
	for _, kind := range []string{
		"a", "z", "0", "9", "/", "-", "=", ";", "==", "--", "a b", "a b c", "; =", "--=", "text/plain; charset=utf-8; format=flowed; delsp=yes",
		strings.Repeat("a", 60), "a" + strings.Repeat(" b", 29), strings.Repeat("b ", 29) + "bb", strings.Repeat("=", 60), "multipart/alternative; boundary=0",
	} {
		if _, _, e := Join([]string{kind}, one); e != api.OK {
			t.Errorf("Join of %q: %d", kind, e)
		}
		agrees(t, []string{kind}, one)
	}
	for _, kind := range []string{
		"", " ", "  ", " a", "a ", " a ", "a  b", "a b  c", "a   b", "A", "Text/plain", "text/Plain", "a_b", "a\"b", "a?b", "=?", "a.b", "a+b", "a,b", "a:b", "a\tb", "a\nb", "a\r\nb", "a\r\n b", "a\x00", "a\x7f", "\u00e9", "a\u00a0b", "\xff",
		"text/plain; charset=UTF-8", strings.Repeat("a", 61), "a" + strings.Repeat(" b", 30), strings.Repeat("a", 60) + " ", " " + strings.Repeat("a", 59), strings.Repeat("a", 100000), strings.Repeat("a ", 30),
	} {
		if b, x, e := Join([]string{kind}, one); b != nil || x != "" || e != api.ErrArg {
			t.Errorf("Join of %.99q = %q, %q, %d", kind, b, x, e)
		}
		agrees(t, []string{kind}, one)
		agrees(t, []string{"a", kind}, bytesOf("x", "y"))
		agrees(t, []string{kind, "a"}, bytesOf("x", "y"))
		agrees(t, []string{"a", "b", "c", "d", "e", "f", "g", kind}, make([][]byte, 8))
	}
	for n := range 63 {
		agrees(t, []string{strings.Repeat("k", n)}, one)
		agrees(t, []string{strings.Repeat("k ", n)}, one)
		agrees(t, []string{strings.Repeat("k ", n) + "k"}, one)
	}
}

func TestAllBytesInKinds(t *testing.T) {
	for i := range 256 {
		c := string([]byte{byte(i)})
		for _, kind := range []string{c, "a" + c, c + "a", "a" + c + "b", c + c, "a" + c + c + "b", "a " + c, c + " a", "a " + c + " b"} {
			agrees(t, []string{kind}, bytesOf(c))
			agrees(t, []string{"text/plain", kind}, bytesOf("x", c))
		}
	}
	each([]string{"a", "=", " ", "A", "0", "/", "_"}, 6, func(s string) {
		agrees(t, []string{s}, bytesOf(s))
	})
}

func TestHowMany(t *testing.T) {
	for n := range 12 {
		for m := range 12 {
			kinds, l := make([]string, n), make([][]byte, m)
			for i := range kinds {
				kinds[i] = fmt.Sprint("a/", i)
			}
			for i := range l {
				l[i] = []byte(fmt.Sprint(i))
			}
			_, _, e := Join(kinds, l)
			if want := n == m && n >= 1 && n <= 8; (e == api.OK) != want {
				t.Errorf("Join of %d kinds and %d bodies: %d", n, m, e)
			}
			agrees(t, kinds, l)
			agrees(t, kinds, make([][]byte, m))
		}
	}
	if b, x, e := Join(nil, nil); b != nil || x != "" || e != api.ErrArg {
		t.Errorf("Join of nothing = %q, %q, %d", b, x, e)
	}
}

func TestJoinedByChance(t *testing.T) {
	source := rand.New(rand.NewSource(152))
	for range 12000 {
		kinds, l := someParts(source)
		agrees(t, kinds, l)
	}
	for range 12000 {
		kinds, l := someParts(source)
		switch i := source.Intn(len(kinds)); source.Intn(4) {
		case 0:
			kinds[i] += " "
		case 1:
			kinds[i] = some(source, 4)
		case 2:
			l = l[:i]
		case 3:
			l = append(l, l[:i]...)
		}
		agrees(t, kinds, l)
	}
}

// P15.3

// joined is some bodies of one kind, as one.
func joined(t *testing.T, texts ...string) string {
	t.Helper()
	b, _, e := Join(slices.Repeat([]string{"text/plain"}, len(texts)), bytesOf(texts...))
	if e != api.OK {
		t.Fatalf("Join of %q: %d", texts, e)
	}
	return string(b)
}

func TestSplit(t *testing.T) {
	kinds, l, e := Split([]byte(joined(t, "a", "", "\n", "=_0")), "=_0")
	if !slices.Equal(kinds, slices.Repeat([]string{"text/plain"}, 4)) || !slices.EqualFunc(l, bytesOf("a", "", "\n", "=_0"), bytes.Equal) || e != api.OK {
		t.Errorf("Split = %q, %q, %d", kinds, l, e)
	}
	good := joined(t, "a", "b")
	headers := "Content-Type: text/plain\r\nContent-Transfer-Encoding: quoted-printable\r\n\r\n"
	for _, s := range []string{
		"", "\r\n", "--", "--=_0", "--=_0\r\n", "--=_0--", "--=_0--\r\n", "--=_0\r\n--=_0--\r\n", "--=_0\r\n\r\n--=_0--\r\n", "--=_0\r\n\r\n\r\n--=_0--\r\n", "a\r\n--=_0--\r\n",
		good + "x", good + "\r\n", good + "\n", good + good, "x" + good, "\r\n" + good, good[1:], good[:len(good)-1], good[:len(good)-2], good[:len(good)-4], good[:len(good)-6], strings.TrimSuffix(good, "--=_0--\r\n"),
		strings.ReplaceAll(good, "\r\n", "\n"), strings.ReplaceAll(good, "=_0", "=_1"), strings.ReplaceAll(good, "=_0", ""), strings.Replace(good, "=_0", "=_1", 1), strings.Replace(good, "=_0", "=_00", 1),
		strings.Replace(good, "text/plain", "Text/plain", 1), strings.Replace(good, "text/plain", "", 1), strings.Replace(good, ": text/plain", ":", 1), strings.Replace(good, "text/plain", " text/plain", 1), strings.Replace(good, "text/plain", "text/plain ", 1),
		strings.Replace(good, "text/plain", "text/plain;\r\n a", 1), strings.Replace(good, "text/plain", strings.Repeat("a", 61), 1), strings.Replace(good, "text/plain", "=?utf-8?B?w6k=?=", 1), strings.Replace(good, "text/plain", "=?utf-8?B?YQ==?=", 1),
		strings.Replace(good, "Content-Type", "content-type", 1), strings.Replace(good, "Content-Type", "Content-type", 1), strings.Replace(good, "Content-Type", "X-Type", 1), strings.Replace(good, "Content-Type: ", "Content-Type:", 1),
		strings.Replace(good, "quoted-printable", "base64", 1), strings.Replace(good, "quoted-printable", "Quoted-Printable", 1), strings.Replace(good, "quoted-printable", "", 1),
		strings.Replace(good, "Content-Transfer-Encoding: quoted-printable\r\n", "", 1), strings.Replace(good, "Content-Type: text/plain\r\n", "", 1), strings.Replace(good, "Content-Type", "A: b\r\nContent-Type", 1), strings.Replace(good, "\r\n\r\n", "\r\nA: b\r\n\r\n", 1),
		strings.Replace(good, "\r\n\r\na", "\r\na", 1), strings.Replace(good, "\r\na\r\n", "\r\na", 1), strings.Replace(good, "\r\na\r\n", "\r\na\n", 1), strings.Replace(good, "\r\na\r\n", "\r\n=\r\n", 1), strings.Replace(good, "\r\na\r\n", "\r\na=\r\n", 1),
		strings.Replace(good, "\r\na\r\n", "\r\na=\r\nb\r\n", 1), strings.Replace(good, "\r\na\r\n", "\r\n=61\r\n", 1), strings.Replace(good, "\r\na\r\n", "\r\n=3d\r\n", 1), strings.Replace(good, "\r\na\r\n", "\r\n=0A\r\n", 1), strings.Replace(good, "\r\na\r\n", "\r\na \r\n", 1), strings.Replace(good, "\r\na\r\n", "\r\na\n\r\n", 1), strings.Replace(good, "\r\na\r\n", "\r\n\u00e9\r\n", 1), strings.Replace(good, "\r\na\r\n", "\r\n"+strings.Repeat("a", 76)+"\r\n", 1),
		"--=_0\r\n" + strings.Replace(headers, "text/plain", "text/plain\r\nContent-Type: text/plain", 1) + "a\r\n--=_0--\r\n",
		"--=_0\r\nContent-Transfer-Encoding: quoted-printable\r\nContent-Type: text/plain\r\n\r\na\r\n--=_0--\r\n",
		"--=_0\r\n" + headers + "a--=_0--\r\n", "--=_0\r\n" + headers + "--=_0--\r\n", "--=_0" + headers + "a\r\n--=_0--\r\n", "--=_0\r\n\r\n" + headers + "a\r\n--=_0--\r\n", "--=_0 \r\n" + headers + "a\r\n--=_0--\r\n",
		"--=_0--\r\n" + headers + "a\r\n--=_0--\r\n", "--=_0\r\n" + headers + "a\r\n--=_0\r\n--=_0--\r\n", "--=_0\r\n" + headers + "a\r\n--=_0\r\n", "--=_0\r\n" + headers + "a\r\n--=_0-- \r\n", "--=_0\r\n" + headers + "a\r\n--=_0-\r\n",
		strings.Repeat("--=_0\r\n"+headers+"a\r\n", 9) + "--=_0--\r\n", strings.Repeat("--=_0\r\n"+headers+"a\r\n", 10) + "--=_0--\r\n", strings.Repeat("--=_0\r\n"+headers+"a\r\n", 100) + "--=_0--\r\n",
	} {
		if kinds, l, e := Split([]byte(s), "=_0"); kinds != nil || l != nil || e != api.ErrForm {
			t.Errorf("Split(%q) = %q, %q, %d", s, kinds, l, e)
		}
		agreesSplit(t, s, "=_0")
	}
	for n := range 12 {
		s := strings.Repeat("--=_0\r\n"+headers+"a\r\n", n) + "--=_0--\r\n"
		if _, l, e := Split([]byte(s), "=_0"); len(l) != n && e == api.OK || (e == api.OK) != (n >= 1 && n <= 8) {
			t.Errorf("Split of %d parts = %q, %d", n, l, e)
		}
	}
	if _, _, e := Split(nil, ""); e != api.ErrForm {
		t.Errorf("Split of nothing: %d", e)
	}
}

// Only the boundary that is joined with is taken, whatever else the bytes are told apart by.
func TestOtherBoundaries(t *testing.T) {
	good := joined(t, "a", "--b", "-- ")
	for _, x := range []string{"", "=", "=_", "=_1", "=_00", "_0", "--=_0", "=_0\r\n", "\r\n", "=_0--", "a", "-", "--", "=_0 ", " =_0", "=3D_0", strings.Repeat("=_0", 1000), good} {
		if kinds, l, e := Split([]byte(good), x); kinds != nil || l != nil || e != api.ErrForm {
			t.Errorf("Split by %q = %q, %q, %d", x, kinds, l, e)
		}
		if kinds, l, e := Split([]byte(strings.ReplaceAll(good, "=_0", x)), x); kinds != nil || l != nil || e != api.ErrForm {
			t.Errorf("Split by %q, which stands in it, = %q, %q, %d", x, kinds, l, e)
		}
	}
}

// What is joined, with each of its bytes changed, taken off, or one put in.
func TestSpoilt(t *testing.T) {
	good := joined(t, "a\n=", "")
	for i := range len(good) + 1 {
		for c := range 256 {
			agreesSplit(t, good[:i]+string([]byte{byte(c)})+good[i:], "=_0")
			if i < len(good) {
				agreesSplit(t, good[:i]+string([]byte{byte(c)})+good[i+1:], "=_0")
			}
		}
		agreesSplit(t, good[:i], "=_0")
		agreesSplit(t, good[i:], "=_0")
		for j := i; j <= len(good); j++ {
			agreesSplit(t, good[:i]+good[j:], "=_0")
		}
		for _, s := range scraps {
			agreesSplit(t, good[:i]+s+good[i:], "=_0")
		}
	}
}

func TestAllShortPieces(t *testing.T) {
	each([]string{"--=_0", "--", "\r\n", "Content-Type: a\r\nContent-Transfer-Encoding: quoted-printable\r\n", "b", "=3D", "="}, 7, func(s string) {
		agreesSplit(t, s, "=_0")
	})
	each([]string{"--=_0\r\nContent-Type: a\r\nContent-Transfer-Encoding: quoted-printable\r\n\r\n", "--=_0--\r\n", "\r\n", "b", "=\r\n", "=3D", " "}, 7, func(s string) {
		agreesSplit(t, s, "=_0")
	})
}

func TestSplitByChance(t *testing.T) {
	source := rand.New(rand.NewSource(153))
	for range 40000 {
		agreesSplit(t, some(source, 12), "=_0")
	}
	for range 20000 {
		kinds, l := someParts(source)
		b, x, _ := Join(kinds, l)
		s := string(b)
		for range 1 + source.Intn(2) {
			i, j := source.Intn(len(s)+1), source.Intn(len(s)+1)
			switch source.Intn(4) {
			case 0:
				s = s[:i] + scraps[source.Intn(len(scraps))] + s[i:]
			case 1:
				s = s[:min(i, j)] + s[max(i, j):]
			case 2:
				s = s[:i] + s[min(i+1, len(s)):]
			case 3:
				s = s[:max(i, j)] + s[min(i, j):]
			}
		}
		agreesSplit(t, s, x)
	}
}

// P15.4

// Bodies of what joins bodies: each of all scraps, also of what is joined itself.
func TestBodiesOfScraps(t *testing.T) {
	for _, s := range scraps {
		for _, behind := range scraps {
			agrees(t, []string{"a", "a"}, bytesOf(s+behind, behind))
		}
	}
	inner := "a"
	for range 6 {
		inner = joined(t, inner, inner)
		agrees(t, []string{"message/rfc822", "text/plain"}, bytesOf(inner, "x"))
	}
	each([]string{"=", "_", "0", "-", "\r", "\n"}, 6, func(s string) {
		returns(t, []string{"a", "b"}, bytesOf(s, "--"+s))
	})
}

func TestAllBytesInBodies(t *testing.T) {
	for i := range 256 {
		for j := range 256 {
			s := string([]byte{byte(i), byte(j)})
			agrees(t, []string{"a", "b"}, bytesOf(s, "x"+s+"y"))
		}
	}
}

// R1, R3 and R5

func TestAskedAgain(t *testing.T) {
	texts := []string{"a=_0", "", "b\n"}
	beyond := []byte("a=_0b\n beyond")
	l := [][]byte{beyond[:4], beyond[4:4], beyond[4:6]}
	kinds := []string{"text/plain", "text/html", "a"}
	want, _, _ := modelJoin(kinds, bytesOf(texts...))
	for range 3 {
		if got := Boundary(l); got != "=_1" {
			t.Fatalf("Boundary = %q", got)
		}
		b, x, e := Join(kinds, l)
		if string(b) != want || x != "=_0" || e != api.OK {
			t.Fatalf("Join = %q, %q, %d, want %q", b, x, e, want)
		}
		in := append(bytes.Clone(b), " beyond"...)
		gotKinds, got, e := Split(in[:len(b)], x)
		if !slices.Equal(gotKinds, kinds) || !slices.EqualFunc(got, bytesOf(texts...), bytes.Equal) || e != api.OK {
			t.Fatalf("Split = %q, %q, %d", gotKinds, got, e)
		}
		for i := range b {
			b[i] = 'w'
		}
		for i := range got {
			for j := range got[i] {
				got[i][j] = 'w'
			}
			_ = append(got[i], "wwwww"...)
			gotKinds[i] = "w"
		}
		_ = append(gotKinds, "w")
		_ = append(got, []byte("w"))
		if string(in) != want+" beyond" || string(beyond) != "a=_0b\n beyond" || !slices.Equal(kinds, []string{"text/plain", "text/html", "a"}) {
			t.Fatalf("what was handed in is changed: %q, %q, %q", in, beyond, kinds)
		}
		_, again, _ := Split(in[:len(in)-len(" beyond")], x)
		for i := range in {
			in[i] = 'v'
		}
		if !slices.EqualFunc(again, bytesOf(texts...), bytes.Equal) {
			t.Fatalf("Split's answer goes on with what was handed in: %q", again)
		}
	}
}

func TestLongTexts(t *testing.T) {
	begun := time.Now()
	const n = 1 << 20
	var rising []string
	for i := range n / 8 {
		rising = append(rising, fmt.Sprint("=_", i))
	}
	if got, want := Boundary(bytesOf(strings.Join(rising, ""))), fmt.Sprint("=_", n/8); got != want {
		t.Errorf("Boundary of all numbers up to it = %q, want %q", got, want)
	}
	if got, want := Boundary(bytesOf(rising...)), fmt.Sprint("=_", n/8); got != want {
		t.Errorf("Boundary of all numbers up to it, in many bodies = %q, want %q", got, want)
	}
	for _, s := range []string{"x", "=", "=_", "=_0", "=_1", "0", "\n", "\r\n", "\xff", " ", "--", "--=_0", "--=_0\r\n", "\r\n--=_0", "--=_0--\r\n", "A: b\r\n", " a\r\n", "=\r\n"} {
		long := strings.Repeat(s, n/len(s))
		if x := Boundary(bytesOf(long, "=_"+long)); x != modelBoundary([]string{long, "=_" + long}) {
			t.Errorf("Boundary of many %q = %q", s, x)
		}
		returns(t, []string{"a", "b"}, bytesOf(long, "x"))
		for _, b := range []string{long, "--=_0\r\n" + long, "--=_0\r\nContent-Type: " + long + "\r\n--=_0--\r\n", joined(t, "a") + long, long + joined(t, "a")} {
			agreesSplit(t, b, "=_0")
			if _, _, e := Split([]byte(b), s); e != api.ErrForm {
				t.Errorf("Split of many %q by it: %d", s, e)
			}
			if _, _, e := Split([]byte(b), long); e != api.ErrForm {
				t.Errorf("Split of many %q by as many: %d", s, e)
			}
		}
		if _, _, e := Join([]string{long}, bytesOf(long)); e != api.ErrArg {
			t.Errorf("Join of a kind of many %q: %d", s, e)
		}
	}
	if took := time.Since(begun); took > 60*time.Second {
		t.Errorf("long texts took %v", took)
	}
}
