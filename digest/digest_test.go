package digest

import (
	"bytes"
	"encoding/xml"
	"fmt"
	"io"
	"math"
	"math/rand"
	"mime"
	"mime/multipart"
	"net/mail"
	"regexp"
	"slices"
	"strconv"
	"strings"
	"testing"
	"time"

	"mailcoach/api"
	"mailcoach/head"
	"mailcoach/part"
	"mailcoach/plain"
	"mailcoach/stamp"
)

// each goes through all texts of at most so many of some pieces.
func each(some []string, most int, try func(s string)) {
	var grow func(s string, more int)
	grow = func(s string, more int) {
		try(s)
		if more == 0 {
			return
		}
		for _, p := range some {
			grow(s+p, more-1)
		}
	}
	grow("", most)
}

// scraps are what titles, links and texts are made of.
var scraps = []string{
	"a", "word", "Z", "0", " ", "  ", "\t", "\n", "\n\n", "\r", "\r\n", "&", "&amp;", "&lt;", "&x;", "<", ">", "\"", "'", "=", "=_0", "=_1", "--=_0", ".", "\r\n.\r\n", "http://a/?b&c=d",
	"<p>", "</p>", "<br>", "<b>", "</b>", "<script>", "</script>", "<!--", "<li>", "</a></li>", "(untitled)", "\x00", "\x7f", "\x80", "\xff", "\u00e9", "\u20ac", "\U0001f600",
	strings.Repeat("x", 40), strings.Repeat("y", 72), strings.Repeat("z", 73), strings.Repeat("many words ", 12),
}

func some(source *rand.Rand, most int) string {
	var s strings.Builder
	for range source.Intn(most + 1) {
		s.WriteString(scraps[source.Intn(len(scraps))])
	}
	return s.String()
}

// someItems are items by chance, at least so many.
func someItems(source *rand.Rand, least, most int) []api.Item {
	var l []api.Item
	for range least + source.Intn(most-least+1) {
		l = append(l, api.Item{
			Feed: source.Intn(8), Seq: source.Intn(1000),
			E: api.Entry{Id: some(source, 2), Title: some(source, 6), Link: some(source, 4), Text: some(source, 12), At: source.Intn(1000)},
		})
	}
	return l
}

func item(title, link, text string) api.Item {
	return api.Item{E: api.Entry{Title: title, Link: link, Text: text}}
}

// P16.1

var idForm = regexp.MustCompile(`^<([1-9][0-9]{0,9})\.([0-7])@mailcoach>$`)

func modelParse(s string) (sub, no int, e api.Errno) {
	found := idForm.FindStringSubmatch(s)
	if found == nil || strings.HasSuffix(s, "\n") {
		return 0, 0, api.ErrForm
	}
	n, _ := strconv.ParseInt(found[1], 10, 64)
	if n > 1<<30 {
		return 0, 0, api.ErrForm
	}
	return int(found[2][0] - '0'), int(n), api.OK
}

func agreesParse(t *testing.T, s string) {
	t.Helper()
	wantSub, wantNo, want := modelParse(s)
	if sub, no, e := Parse(s); sub != wantSub || no != wantNo || e != want {
		t.Fatalf("Parse(%.99q) = %d, %d, %d, want %d, %d, %d", s, sub, no, e, wantSub, wantNo, want)
	}
}

// numbers are some of digests' numbers, and the edges, and what is none.
func numbers() []int {
	l := []int{math.MinInt, math.MinInt + 1, -1 << 30, -12, -1, 0, 1, 2, 7, 8, 9, 10, 11, 12, 99, 100, 101, 1 << 20, 999999999, 1000000000, 1<<30 - 1, 1 << 30, 1<<30 + 1, 1 << 31, math.MaxInt - 1, math.MaxInt}
	for n := range 300 {
		l = append(l, n, n*n*n, 1<<30-n)
	}
	return l
}

func TestId(t *testing.T) {
	for _, c := range []struct {
		sub, no int
		want    string
	}{
		{3, 12, "<12.3@mailcoach>"},
		{0, 1, "<1.0@mailcoach>"},
		{7, 1, "<1.7@mailcoach>"},
		{0, 10, "<10.0@mailcoach>"},
		{1, 1 << 30, "<1073741824.1@mailcoach>"},
		{7, 1 << 30, "<1073741824.7@mailcoach>"},
	} {
		if got, e := Id(c.sub, c.no); got != c.want || e != api.OK {
			t.Errorf("Id(%d, %d) = %q, %d, want %q", c.sub, c.no, got, e, c.want)
		}
	}
	for _, c := range [][2]int{{-1, 1}, {8, 1}, {9, 1}, {0, 0}, {7, 0}, {0, -1}, {0, 1<<30 + 1}, {8, 0}, {-1, 1<<30 + 1}, {math.MinInt, math.MinInt}, {math.MaxInt, math.MaxInt}, {0, math.MinInt}, {0, math.MaxInt}, {math.MaxInt, 1}, {math.MinInt, 1}} {
		if got, e := Id(c[0], c[1]); got != "" || e != api.ErrArg {
			t.Errorf("Id(%d, %d) = %q, %d", c[0], c[1], got, e)
		}
	}
	for _, no := range numbers() {
		for _, sub := range []int{math.MinInt, -8, -1, 0, 1, 2, 3, 4, 5, 6, 7, 8, 9, 10, 16, math.MaxInt} {
			want, wrong := fmt.Sprintf("<%d.%d@mailcoach>", no, sub), api.OK
			if no < 1 || no > 1<<30 || sub < 0 || sub > 7 {
				want, wrong = "", api.ErrArg
			}
			if got, e := Id(sub, no); got != want || e != wrong {
				t.Errorf("Id(%d, %d) = %q, %d, want %q, %d", sub, no, got, e, want, wrong)
			}
			agreesParse(t, fmt.Sprintf("<%d.%d@mailcoach>", no, sub))
		}
	}
}

func TestParse(t *testing.T) {
	if sub, no, e := Parse("<12.3@mailcoach>"); sub != 3 || no != 12 || e != api.OK {
		t.Errorf("Parse = %d, %d, %d", sub, no, e)
	}
	for _, s := range []string{
		"", "<", ">", "<>", ".", "@", "@mailcoach>", "<.@mailcoach>", "<1.@mailcoach>", "<.0@mailcoach>", "<10@mailcoach>", "<1..0@mailcoach>", "<1.0.0@mailcoach>", "<1,0@mailcoach>", "<1.0>", "<1.0@>", "<1.0@mailcoach", "1.0@mailcoach>", "1.0@mailcoach", "1.0",
		"<0.0@mailcoach>", "<00.0@mailcoach>", "<01.0@mailcoach>", "<1.00@mailcoach>", "<1.01@mailcoach>", "<1.8@mailcoach>", "<1.9@mailcoach>", "<1.10@mailcoach>", "<1.-1@mailcoach>", "<1.-0@mailcoach>", "<-1.0@mailcoach>", "<+1.0@mailcoach>", "<1.+0@mailcoach>", "<1_0.0@mailcoach>", "<0x1.0@mailcoach>", "<1e1.0@mailcoach>",
		"<1073741825.0@mailcoach>", "<4294967297.0@mailcoach>", "<18446744073709551617.0@mailcoach>", "<1.18446744073709551616@mailcoach>", "<9223372036854775807.0@mailcoach>", "<" + strings.Repeat("9", 1000) + ".0@mailcoach>", "<" + strings.Repeat("0", 1000) + "1.0@mailcoach>", "<1." + strings.Repeat("0", 100000) + "@mailcoach>",
		" <1.0@mailcoach>", "<1.0@mailcoach> ", "<1.0@mailcoach>\n", "\n<1.0@mailcoach>", "<1.0@mailcoach>\x00", "< 1.0@mailcoach>", "<1 .0@mailcoach>", "<1. 0@mailcoach>", "<1.0 @mailcoach>", "<1.0@ mailcoach>", "<1.0@mailcoach >",
		"<1.0@Mailcoach>", "<1.0@mailcoach.>", "<1.0@mailcoaches>", "<1.0@mail>", "<<1.0@mailcoach>", "<1.0@mailcoach>>", "<1.0@mailcoach@mailcoach>", "<1.0@mailcoach><1.0@mailcoach>", "<\u0661.0@mailcoach>", "<1.\uff10@mailcoach>",
	} {
		if sub, no, e := Parse(s); sub != 0 || no != 0 || e != api.ErrForm {
			t.Errorf("Parse(%.99q) = %d, %d, %d", s, sub, no, e)
		}
		agreesParse(t, s)
	}
}

// Ids with each of their bytes changed, taken off, or one put in.
func TestSpoiltIds(t *testing.T) {
	for _, id := range []string{"<1.0@mailcoach>", "<10.7@mailcoach>", "<1073741824.3@mailcoach>"} {
		for i := range len(id) + 1 {
			for c := range 256 {
				agreesParse(t, id[:i]+string([]byte{byte(c)})+id[i:])
				if i < len(id) {
					agreesParse(t, id[:i]+string([]byte{byte(c)})+id[i+1:])
				}
			}
			for j := i; j <= len(id); j++ {
				agreesParse(t, id[:i]+id[j:])
				agreesParse(t, id[:j]+id[i:])
			}
		}
	}
	each([]string{"<", "1", "0", ".", "@mailcoach>", "-", "8"}, 6, func(s string) {
		agreesParse(t, s)
	})
	each([]string{"0", "1", "7", "8", "9", ".", "+"}, 5, func(s string) {
		agreesParse(t, "<"+s+"@mailcoach>")
	})
	for n := int64(1<<30 - 1200); n < 1<<30+1200; n++ {
		agreesParse(t, fmt.Sprint("<", n, ".5@mailcoach>"))
	}
}

// P16.2

// modelText is P16.2, line by line.
func modelText(l []api.Item) string {
	s := ""
	line := func(one string) { s += one + "\n" }
	for _, x := range l {
		name := x.E.Title
		if len(name) == 0 {
			name = "(untitled)"
		}
		for _, one := range plain.Wrap(name, 72) {
			line(one)
		}
		if len(x.E.Link) != 0 {
			line(x.E.Link)
		}
		if body := plain.Of(x.E.Text); len(body) != 0 {
			for _, one := range plain.Wrap(body, 72) {
				line(one)
			}
		}
		line("")
	}
	return s
}

func TestText(t *testing.T) {
	long := strings.Repeat("x", 100)
	for _, c := range []struct {
		l    []api.Item
		want string
	}{
		{nil, ""},
		{[]api.Item{}, ""},
		{[]api.Item{{}}, "(untitled)\n\n"},
		{[]api.Item{{}, {}}, "(untitled)\n\n(untitled)\n\n"},
		{[]api.Item{item("T", "", "")}, "T\n\n"},
		{[]api.Item{item("", "L", "")}, "(untitled)\nL\n\n"},
		{[]api.Item{item("", "", "X")}, "(untitled)\nX\n\n"},
		{[]api.Item{item("T", "L", "X")}, "T\nL\nX\n\n"},
		{[]api.Item{item("T", "L", "X"), item("U", "M", "Y")}, "T\nL\nX\n\nU\nM\nY\n\n"},
		{[]api.Item{item("U", "", ""), item("T", "", ""), item("U", "", "")}, "U\n\nT\n\nU\n\n"},
		{[]api.Item{item(" a  b\tc\r ", "", "")}, "a b c\n\n"},
		{[]api.Item{item("a\nb", "", "")}, "a\nb\n\n"},
		{[]api.Item{item("a\n\nb\n", "", "")}, "a\n\nb\n\n\n"},
		{[]api.Item{item(" ", "L", "")}, "\nL\n\n"},
		{[]api.Item{item("<b>a</b> &amp; c", "", "")}, "<b>a</b> &amp; c\n\n"},
		{[]api.Item{item("(untitled)", "", "")}, "(untitled)\n\n"},
		{[]api.Item{item("T", " l  m ", "")}, "T\n l  m \n\n"},
		{[]api.Item{item("T", " ", "")}, "T\n \n\n"},
		{[]api.Item{item("T", "a&b", "")}, "T\na&b\n\n"},
		{[]api.Item{item("T", strings.Repeat("l ", 60), "")}, "T\n" + strings.Repeat("l ", 60) + "\n\n"},
		{[]api.Item{item("T", "", "<p>One</p><p>Two &amp; <b>more</b></p>")}, "T\nOne\nTwo & more\n\n"},
		{[]api.Item{item("T", "", "a\nb")}, "T\na b\n\n"},
		{[]api.Item{item("T", "", "a<script>b</script>c")}, "T\nac\n\n"},
		{[]api.Item{item("T", "L", " ")}, "T\nL\n\n"},
		{[]api.Item{item("T", "L", "<p></p><br>")}, "T\nL\n\n"},
		{[]api.Item{item("T", "", "<img src=a>")}, "T\n\n"},
		{[]api.Item{item("T", "", "<script>x</script>")}, "T\n\n"},
		{[]api.Item{item(long, "L", long)}, long + "\nL\n" + long + "\n\n"},
		{[]api.Item{item(long[:71]+" a", "", "")}, long[:71] + "\na\n\n"},
		{[]api.Item{item(long[:70]+" a", "", "")}, long[:70] + " a\n\n"},
		{[]api.Item{item(long[:70]+" ab", "", "")}, long[:70] + "\nab\n\n"},
		{[]api.Item{item("T", "", long[:70]+" a")}, "T\n" + long[:70] + " a\n\n"},
		{[]api.Item{item("T", "", long[:70]+" ab")}, "T\n" + long[:70] + "\nab\n\n"},
		{[]api.Item{item("T", "", long[:72]+" b")}, "T\n" + long[:72] + "\nb\n\n"},
		{[]api.Item{{Feed: 3, Seq: 9, E: api.Entry{Id: "id", Title: "T", At: 5}}}, "T\n\n"},
		{[]api.Item{item("\xff", "\xfe", "\xfd")}, "\xff\n\xfe\n\xfd\n\n"},
	} {
		if got := Text(c.l); got != c.want {
			t.Errorf("Text(%+v) = %q, want %q", c.l, got, c.want)
		}
		if got := modelText(c.l); got != c.want {
			t.Errorf("the model of Text(%+v) = %q, want %q", c.l, got, c.want)
		}
	}
}

// P16.3

var signs = strings.NewReplacer("&", "&amp;", "<", "&lt;", ">", "&gt;", "\"", "&quot;")

func modelHtml(l []api.Item) string {
	s := "<ul>\n"
	for _, x := range l {
		name := x.E.Title
		if len(name) == 0 {
			name = "(untitled)"
		}
		s += fmt.Sprintf("<li><a href=\"%s\">%s</a></li>\n", signs.Replace(x.E.Link), signs.Replace(name))
	}
	return s + "</ul>\n"
}

func TestHtml(t *testing.T) {
	for _, c := range []struct {
		l    []api.Item
		want string
	}{
		{nil, "<ul>\n</ul>\n"},
		{[]api.Item{}, "<ul>\n</ul>\n"},
		{[]api.Item{{}}, "<ul>\n<li><a href=\"\">(untitled)</a></li>\n</ul>\n"},
		{[]api.Item{item("T", "L", "X")}, "<ul>\n<li><a href=\"L\">T</a></li>\n</ul>\n"},
		{[]api.Item{item("", "L", "X")}, "<ul>\n<li><a href=\"L\">(untitled)</a></li>\n</ul>\n"},
		{[]api.Item{item("T", "", "X")}, "<ul>\n<li><a href=\"\">T</a></li>\n</ul>\n"},
		{[]api.Item{item("T", "L", ""), item("U", "M", "")}, "<ul>\n<li><a href=\"L\">T</a></li>\n<li><a href=\"M\">U</a></li>\n</ul>\n"},
		{[]api.Item{item("U", "", ""), item("T", "", ""), item("U", "", "")}, "<ul>\n<li><a href=\"\">U</a></li>\n<li><a href=\"\">T</a></li>\n<li><a href=\"\">U</a></li>\n</ul>\n"},
		{[]api.Item{item("<&>\"'", "\"><&'", "")}, "<ul>\n<li><a href=\"&quot;&gt;&lt;&amp;'\">&lt;&amp;&gt;&quot;'</a></li>\n</ul>\n"},
		{[]api.Item{item("&amp;", "&lt;", "")}, "<ul>\n<li><a href=\"&amp;lt;\">&amp;amp;</a></li>\n</ul>\n"},
		{[]api.Item{item(" a  b\n", " l\n", "")}, "<ul>\n<li><a href=\" l\n\"> a  b\n</a></li>\n</ul>\n"},
		{[]api.Item{item(strings.Repeat("a b ", 40), strings.Repeat("l", 200), "")}, "<ul>\n<li><a href=\"" + strings.Repeat("l", 200) + "\">" + strings.Repeat("a b ", 40) + "</a></li>\n</ul>\n"},
		{[]api.Item{item("\xff", "\xfe", "\xfd")}, "<ul>\n<li><a href=\"\xfe\">\xff</a></li>\n</ul>\n"},
		{[]api.Item{{Feed: 3, Seq: 9, E: api.Entry{Id: "id", Title: "T", At: 5}}}, "<ul>\n<li><a href=\"\">T</a></li>\n</ul>\n"},
	} {
		if got := Html(c.l); got != c.want {
			t.Errorf("Html(%+v) = %q, want %q", c.l, got, c.want)
		}
		if got := modelHtml(c.l); got != c.want {
			t.Errorf("the model of Html(%+v) = %q, want %q", c.l, got, c.want)
		}
	}
}

// The library's reader finds the same links and titles.
func TestHtmlIsRead(t *testing.T) {
	source := rand.New(rand.NewSource(161))
	pieces := []string{"a", "B", "0", " ", "&", "<", ">", "\"", "'", "&amp;", "</a>", "</li>", "</ul>", "<b>", "\u00e9", "=", "\n"}
	one := func() string {
		var s strings.Builder
		for range source.Intn(7) {
			s.WriteString(pieces[source.Intn(len(pieces))])
		}
		return s.String()
	}
	for range 3000 {
		var l []api.Item
		for range source.Intn(5) {
			l = append(l, item(one(), one(), one()))
		}
		var list struct {
			Entries []struct {
				Link struct {
					Href string `xml:"href,attr"`
					Name string `xml:",chardata"`
				} `xml:"a"`
			} `xml:"li"`
		}
		s := Html(l)
		if err := xml.Unmarshal([]byte(s), &list); err != nil || len(list.Entries) != len(l) {
			t.Fatalf("Html(%+v) = %q is read as %q, %v", l, s, list, err)
		}
		for i, x := range l {
			got, name := list.Entries[i].Link, x.E.Title
			if name == "" {
				name = "(untitled)"
			}
			if got.Href != x.E.Link || got.Name != name {
				t.Fatalf("Html(%+v) = %q is read as %q", l, s, list)
			}
		}
	}
}

func agreesBodies(t *testing.T, l []api.Item) {
	t.Helper()
	if got, want := Text(l), modelText(l); got != want {
		t.Fatalf("Text(%+v) = %q, want %q", l, got, want)
	}
	if got, want := Html(l), modelHtml(l); got != want {
		t.Fatalf("Html(%+v) = %q, want %q", l, got, want)
	}
}

func TestShortEntries(t *testing.T) {
	each([]string{"a", " ", "\n", "<br>", "&", "\""}, 4, func(s string) {
		agreesBodies(t, []api.Item{item(s, "", "")})
		agreesBodies(t, []api.Item{item("", s, "")})
		agreesBodies(t, []api.Item{item("", "", s)})
		agreesBodies(t, []api.Item{item(s, s, s), item("b", s, ""), item("", "", s)})
	})
	for i := range 256 {
		s := string([]byte{byte(i)})
		agreesBodies(t, []api.Item{item(s, s, s), item("a"+s+"b", "a"+s+"b", "a"+s+"b")})
	}
	for n := range 80 {
		for m := range 6 {
			s := strings.Repeat("w", n) + " " + strings.Repeat("v", m)
			agreesBodies(t, []api.Item{item(s, s, s)})
		}
	}
}

func TestEntriesByChance(t *testing.T) {
	source := rand.New(rand.NewSource(162))
	for range 20000 {
		agreesBodies(t, someItems(source, 0, 5))
	}
}

// P16.4

var addressForm = regexp.MustCompile(`\A[A-Za-z0-9._+-]+@[A-Za-z0-9._+-]+\z`)

func modelAddress(s string) bool { return len(s) <= 60 && addressForm.MatchString(s) }

// modelBuild is P16.4, with the lines of headers and of parts written out.
func modelBuild(to string, sub, no, at, off int, l []api.Item) (string, api.Errno) {
	if no < 1 || no > 1<<30 || sub < 0 || sub > 7 || !modelAddress(to) {
		return "", api.ErrArg
	}
	if len(l) == 0 {
		return "", api.ErrNone
	}
	date, e := stamp.Mail(at, off)
	if e != api.OK {
		return "", e
	}
	entries := "entries"
	if len(l) == 1 {
		entries = "entry"
	}
	lines := []string{
		"From: digest@mailcoach",
		"To: " + to,
		fmt.Sprintf("Subject: Digest %d: %d %s", no, len(l), entries),
		"Date: " + date,
		fmt.Sprintf("Message-ID: <%d.%d@mailcoach>", no, sub),
		"MIME-Version: 1.0",
		"Content-Type: multipart/alternative; boundary=\"=_0\"",
		"",
		"",
	}
	bodies, _, _ := part.Join([]string{"text/plain; charset=utf-8", "text/html; charset=utf-8"}, [][]byte{[]byte(modelText(l)), []byte(modelHtml(l))})
	return strings.Join(lines, "\r\n") + string(bodies), api.OK
}

func agrees(t *testing.T, to string, sub, no, at, off int, l []api.Item) {
	t.Helper()
	want, wrong := modelBuild(to, sub, no, at, off, l)
	got, e := Build(to, sub, no, at, off, l)
	if string(got) != want || e != wrong || e != api.OK && got != nil {
		t.Fatalf("Build(%q, %d, %d, %d, %d, %+v) = %q, %d, want %q, %d", to, sub, no, at, off, l, got, e, want, wrong)
	}
}

func TestBuild(t *testing.T) {
	got, e := Build("ann@ex.org", 3, 12, 951782400, 3600, []api.Item{item("T & \u00e9", "http://a/?b=c", "<p>x</p>y"), {}})
	want := "From: digest@mailcoach\r\n" +
		"To: ann@ex.org\r\n" +
		"Subject: Digest 12: 2 entries\r\n" +
		"Date: Tue, 29 Feb 2000 01:00:00 +0100\r\n" +
		"Message-ID: <12.3@mailcoach>\r\n" +
		"MIME-Version: 1.0\r\n" +
		"Content-Type: multipart/alternative; boundary=\"=_0\"\r\n" +
		"\r\n" +
		"--=_0\r\n" +
		"Content-Type: text/plain; charset=utf-8\r\n" +
		"Content-Transfer-Encoding: quoted-printable\r\n" +
		"\r\n" +
		"T & =C3=A9\r\nhttp://a/?b=3Dc\r\nx\r\ny\r\n\r\n(untitled)\r\n\r\n\r\n" +
		"--=_0\r\n" +
		"Content-Type: text/html; charset=utf-8\r\n" +
		"Content-Transfer-Encoding: quoted-printable\r\n" +
		"\r\n" +
		"<ul>\r\n<li><a href=3D\"http://a/?b=3Dc\">T &amp; =C3=A9</a></li>\r\n<li><a href=3D\"\">(untitled)</a></li>\r\n</ul>\r\n\r\n" +
		"--=_0--\r\n"
	if string(got) != want || e != api.OK {
		t.Errorf("Build = %q, %d, want %q", got, e, want)
	}
}

func TestSubjects(t *testing.T) {
	for n, want := range map[int]string{1: "Digest 9: 1 entry", 2: "Digest 9: 2 entries", 10: "Digest 9: 10 entries", 11: "Digest 9: 11 entries", 101: "Digest 9: 101 entries", 1600: "Digest 9: 1600 entries"} {
		b, e := Build("a@b", 0, 9, 0, 0, make([]api.Item, n))
		if !strings.Contains(string(b), "\r\nSubject: "+want+"\r\n") || e != api.OK {
			t.Errorf("Build of %d entries = %.200q, %d", n, b, e)
		}
	}
	if b, _ := Build("a@b", 0, 1<<30, 0, 0, make([]api.Item, 1)); !strings.Contains(string(b), "\r\nSubject: Digest 1073741824: 1 entry\r\n") {
		t.Errorf("Build of the last digest = %.200q", b)
	}
}

func TestAddresses(t *testing.T) {
	l := make([]api.Item, 1)
	for _, to := range []string{
		"a@b", "A@Z", "0@9", ".@.", "-@-", "_@_", "+@+", "ann@ex.org", "ann+news@ex.org", "Ann.B_c-d+e@Ex-1.org", "a..b@c..d", strings.Repeat("a", 58) + "@b", "a@" + strings.Repeat("b", 58), strings.Repeat("a", 30) + "@" + strings.Repeat("b", 29),
	} {
		b, e := Build(to, 0, 1, 0, 0, l)
		if !strings.Contains(string(b), "\r\nTo: "+to+"\r\n") || e != api.OK {
			t.Errorf("Build for %q = %q, %d", to, b, e)
		}
		agrees(t, to, 0, 1, 0, 0, l)
	}
	for _, to := range []string{
		"", "@", "a", "ab", "abc", "a@", "@b", "ab@", "@ab", "@a@", "a@b@c", "a@@b", "@a@b", "a@b@", "a b@c", " a@b", "a@b ", "a@ b", "<a@b>", "a,b@c", "a@b,c@d", "a@b;", "a@b\n", "a@b\r\nBcc: c@d", "a\x00@b", "a%b@c", "a@[1]", "a!b@c", "a'b@c", "a/b@c", "a=b@c", "a@b:25", "a\u00e9@b", "a@\u00e9", "\xff@b", "a\"b@c", "a*@b", "a@b>", "=?utf-8?B?YQ==?=@b",
		strings.Repeat("a", 59) + "@b", "a@" + strings.Repeat("b", 59), strings.Repeat("a", 61), strings.Repeat("a", 100000) + "@b", strings.Repeat("@", 60),
	} {
		if b, e := Build(to, 0, 1, 0, 0, l); b != nil || e != api.ErrArg {
			t.Errorf("Build for %.99q = %q, %d", to, b, e)
		}
		agrees(t, to, 0, 1, 0, 0, l)
	}
	for i := range 256 {
		c := string([]byte{byte(i)})
		for _, to := range []string{c + "@b", "a@" + c, "a" + c + "@b", c + "a@b", "a@b" + c, "a@" + c + "b", "a" + c + "b", c + c + c, "ab" + c, c + "ab"} {
			agrees(t, to, 0, 1, 0, 0, l)
		}
	}
	each([]string{"a", "@", ".", "Z", " ", "9"}, 5, func(s string) {
		agrees(t, s, 0, 1, 0, 0, l)
	})
	for n := range 64 {
		for m := range 64 {
			agrees(t, strings.Repeat("a", n)+"@"+strings.Repeat("b", m), 0, 1, 0, 0, l)
		}
	}
}

// Whatever else is wrong, the error that is named first is told.
func TestErrorsInOrder(t *testing.T) {
	one := make([]api.Item, 1)
	for _, c := range []struct {
		to              string
		sub, no, at, of int
		l               []api.Item
		want            api.Errno
	}{
		{"a@b", 0, 1, 0, 0, one, api.OK},
		{"a@b", 8, 1, 0, 0, one, api.ErrArg},
		{"a@b", -1, 1, 0, 0, one, api.ErrArg},
		{"a@b", 0, 0, 0, 0, one, api.ErrArg},
		{"a@b", 0, 1<<30 + 1, 0, 0, one, api.ErrArg},
		{"a@b", 8, 1, 0, 0, nil, api.ErrArg},
		{"a@b", 0, 0, 0, 0, nil, api.ErrArg},
		{"a", 0, 1, 0, 0, one, api.ErrArg},
		{"a", 0, 1, 0, 0, nil, api.ErrArg},
		{"a@b", 0, 1, 0, 0, nil, api.ErrNone},
		{"a@b", 0, 1, 0, 0, []api.Item{}, api.ErrNone},
		{"a@b", 0, 1, api.MaxTime + 1, 0, nil, api.ErrNone},
		{"a@b", 0, 1, 0, api.MaxOff + 1, nil, api.ErrNone},
		{"a@b", 0, 1, api.MaxTime, 0, one, api.OK},
		{"a@b", 0, 1, api.MaxTime + 1, 0, one, api.ErrArg},
		{"a@b", 0, 1, api.MaxTime, 1, one, api.ErrArg},
		{"a@b", 0, 1, api.MaxTime + 1, -1, one, api.OK},
		{"a@b", 0, 1, -62135596800, 0, one, api.OK},
		{"a@b", 0, 1, -62135596801, 0, one, api.ErrArg},
		{"a@b", 0, 1, -62135596800, -1, one, api.ErrArg},
		{"a@b", 0, 1, 0, api.MaxOff, one, api.OK},
		{"a@b", 0, 1, 0, -api.MaxOff, one, api.OK},
		{"a@b", 0, 1, 0, api.MaxOff + 1, one, api.ErrArg},
		{"a@b", 0, 1, 0, -api.MaxOff - 1, one, api.ErrArg},
		{"a@b", 0, 1, math.MaxInt, 0, one, api.ErrArg},
		{"a@b", 0, 1, math.MinInt, 0, one, api.ErrArg},
		{"a@b", 0, 1, math.MaxInt, 1, one, api.ErrArg},
		{"a@b", 0, 1, 0, math.MinInt, one, api.ErrArg},
		{"a@b", 0, 1, 0, math.MaxInt, one, api.ErrArg},
	} {
		if b, e := Build(c.to, c.sub, c.no, c.at, c.of, c.l); e != c.want || (b == nil) != (e != api.OK) {
			t.Errorf("Build(%q, %d, %d, %d, %d, %d entries) = %q, %d, want %d", c.to, c.sub, c.no, c.at, c.of, len(c.l), b, e, c.want)
		}
	}
	for _, to := range []string{"a@b", "", "a@b@c"} {
		for _, sub := range []int{math.MinInt, -1, 0, 7, 8, math.MaxInt} {
			for _, no := range []int{math.MinInt, -1, 0, 1, 1 << 30, 1<<30 + 1, math.MaxInt} {
				for _, at := range []int{math.MinInt, -62135596801, -62135596800, -1, 0, 1, api.MaxTime, api.MaxTime + 1, math.MaxInt} {
					for _, off := range []int{math.MinInt, -api.MaxOff - 1, -api.MaxOff, -1, 0, 1, api.MaxOff, api.MaxOff + 1, math.MaxInt} {
						for n := range 3 {
							agrees(t, to, sub, no, at, off, make([]api.Item, n))
						}
					}
				}
			}
		}
	}
}

// reads is what is built, read: by the layers below, and by the library.
func reads(t *testing.T, to string, sub, no, at, off int, l []api.Item) {
	t.Helper()
	b, e := Build(to, sub, no, at, off, l)
	if e != api.OK {
		t.Fatalf("Build(%q, %d, %d, %d, %d, %+v): %d", to, sub, no, at, off, l, e)
	}
	id, _ := Id(sub, no)
	bodies := []string{Text(l), Html(l)}
	kinds := []string{"text/plain; charset=utf-8", "text/html; charset=utf-8"}
	headers, rest, e := head.Cut(b)
	if len(headers) != 7 || e != api.OK {
		t.Fatalf("%q has the headers %q, %d", b, headers, e)
	}
	gotKinds, got, e := part.Split(rest, "=_0")
	if !slices.Equal(gotKinds, kinds) || len(got) != 2 || string(got[0]) != bodies[0] || string(got[1]) != bodies[1] || e != api.OK {
		t.Fatalf("%q is split as %q, %q, %d", rest, gotKinds, got, e)
	}
	m, err := mail.ReadMessage(bytes.NewReader(b))
	if err != nil {
		t.Fatalf("%q is no mail: %v", b, err)
	}
	if len(m.Header) != 7 || m.Header.Get("From") != "digest@mailcoach" || m.Header.Get("To") != to || m.Header.Get("Message-ID") != id || m.Header.Get("MIME-Version") != "1.0" || !strings.HasPrefix(m.Header.Get("Subject"), fmt.Sprint("Digest ", no, ": ", len(l), " entr")) {
		t.Fatalf("%q has the headers %q", b, m.Header)
	}
	if date, err := m.Header.Date(); err != nil || date.Unix() != int64(at) {
		t.Fatalf("%q is of %v, %v, want %v", b, date, err, time.Unix(int64(at), 0))
	}
	kind, more, err := mime.ParseMediaType(m.Header.Get("Content-Type"))
	if kind != "multipart/alternative" || len(more) != 1 || err != nil {
		t.Fatalf("%q is of kind %q, %q, %v", b, kind, more, err)
	}
	reader := multipart.NewReader(m.Body, more["boundary"])
	for i, want := range bodies {
		p, err := reader.NextPart()
		if err != nil || p.Header.Get("Content-Type") != kinds[i] {
			t.Fatalf("%q, part %d: %v", b, i, err)
		}
		if body, err := io.ReadAll(p); string(body) != strings.ReplaceAll(want, "\n", "\r\n") || err != nil {
			t.Fatalf("%q, part %d is read as %q, %v, want %q", b, i, body, err, want)
		}
	}
	if _, err := reader.NextPart(); err != io.EOF {
		t.Fatalf("%q has one more part: %v", b, err)
	}
}

func TestBuiltByChance(t *testing.T) {
	source := rand.New(rand.NewSource(163))
	const named = "abcXYZ0189.-_+"
	name := func() string {
		b := make([]byte, 1+source.Intn(29))
		for i := range b {
			b[i] = named[source.Intn(len(named))]
		}
		return string(b)
	}
	for range 4000 {
		to, sub, no := name()+"@"+name(), source.Intn(8), 1+source.Intn(1<<(1+source.Intn(30)))
		at, off := source.Intn(api.MaxTime+1), source.Intn(2*api.MaxOff+1)-api.MaxOff
		l := someItems(source, 0, 6)
		agrees(t, to, sub, no, at, off, l)
		if at > api.MaxOff && at < api.MaxTime-api.MaxOff && len(l) > 0 {
			reads(t, name()+"@x", sub, no, at, off/3600%24*3600, l) // a mail's date has no seconds of its zone, and the library takes no days
		}
		switch source.Intn(3) {
		case 0:
			to = some(source, 3) + to
		case 1:
			sub = source.Intn(20) - 6
		case 2:
			at, off = at+source.Intn(api.MaxTime), 2*off
		}
		agrees(t, to, sub, no, at, off, l)
	}
}

// A mail has nothing but what may be sent: lines of at most 76 bytes, of signs, blanks and tabs.
func TestBytesOfMails(t *testing.T) {
	source := rand.New(rand.NewSource(164))
	for range 3000 {
		b, e := Build("a@b", 0, 1, 0, 0, someItems(source, 1, 6))
		if e != api.OK {
			t.Fatal(e)
		}
		for line := range strings.SplitSeq(strings.TrimSuffix(string(b), "\r\n"), "\r\n") {
			if len(line) > 76 || strings.ContainsFunc(line, func(r rune) bool { return r > '~' || r < ' ' && r != '\t' }) {
				t.Fatalf("%q has the line %q", b, line)
			}
		}
	}
}

// P16.5

func TestNoTwoIds(t *testing.T) {
	has := map[string][2]int{}
	for _, first := range []int{1, 99900, 1<<30 - 20000} {
		for no := first; no <= first+20000; no++ {
			for sub := range 8 {
				id, e := Id(sub, no)
				if twin, ok := has[id]; ok || e != api.OK {
					t.Fatalf("Id(%d, %d) = %q, %d, as of %d", sub, no, id, e, twin)
				}
				has[id] = [2]int{sub, no}
				if gotSub, gotNo, e := Parse(id); gotSub != sub || gotNo != no || e != api.OK {
					t.Fatalf("Parse(%q) = %d, %d, %d", id, gotSub, gotNo, e)
				}
			}
		}
	}
}

func TestBuiltTheSame(t *testing.T) {
	source := rand.New(rand.NewSource(165))
	for range 2000 {
		l := someItems(source, 1, 6)
		kept := slices.Clone(l)
		first, e := Build("a@b", 1, 2, 3, 4, l)
		want := string(first)
		if e != api.OK || !slices.Equal(l, kept) {
			t.Fatalf("Build changed %+v to %+v, %d", kept, l, e)
		}
		for i := range first { // what was answered is the caller's own
			first[i] = 'x'
		}
		first = append(first[:0], "spoilt"...)
		if _, e := Build("c@d", 5, 6, 7, 8, someItems(source, 1, 6)); e != api.OK {
			t.Fatal(e)
		}
		Build("", 9, 0, 0, 0, nil)
		again, e := Build("a@b", 1, 2, 3, 4, kept)
		if string(again) != want || e != api.OK {
			t.Fatalf("Build of %+v = %q, %d, but %q ahead", l, again, e, want)
		}
		other := slices.Clone(again)
		l[0] = item("spoilt", "spoilt", "spoilt")
		if !bytes.Equal(again, other) {
			t.Fatalf("a digest changed with its entries: %q", again)
		}
		for no := range 3 { // other digests have other bytes
			b, _ := Build("a@b", 1, 3+no, 3, 4, kept)
			if bytes.Equal(b, again) {
				t.Fatalf("two digests are %q", b)
			}
		}
	}
}

// Long lists end in good time.
func TestManyEntries(t *testing.T) {
	long := item(strings.Repeat("many words ", 300), strings.Repeat("l&", 2000), strings.Repeat("<p>a &amp; b ", 300))
	l := slices.Repeat([]api.Item{long}, 1600)
	begun := time.Now()
	b, e := Build("a@b", 7, api.MaxNo, api.MaxTime, 0, l)
	if e != api.OK || !strings.Contains(string(b[:200]), "Digest 1073741824: 1600 entries") {
		t.Errorf("Build of many entries = %.200q, %d", b, e)
	}
	if took := time.Since(begun); took > 20*time.Second {
		t.Errorf("Build of many entries took %v", took)
	}
}
