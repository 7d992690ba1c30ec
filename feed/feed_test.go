package feed

import (
	"bytes"
	"maps"
	"math"
	"math/rand"
	"reflect"
	"slices"
	"strconv"
	"strings"
	"testing"
	"time"

	"mailcoach/api"
	"mailcoach/xml"
)

func open(name string, attrs ...api.Attr) api.Token { return api.Token{Name: name, Attrs: attrs} }

func end(name string) api.Token { return api.Token{Kind: api.Close, Name: name} }

func text(s string) api.Token { return api.Token{Kind: api.Text, Text: s} }

func attr(name, text string) api.Attr { return api.Attr{Name: name, Text: text} }

func entry(id, title, link, text string, at int) api.Entry {
	return api.Entry{Id: id, Title: title, Link: link, Text: text, At: at}
}

// pieces are those of a document that must be one.
func pieces(t *testing.T, s string) []api.Token {
	t.Helper()
	l, e := xml.Tokens([]byte(s))
	if e != api.OK {
		t.Fatalf("%.300q is no document: %d", s, e)
	}
	return l
}

// copied shares nothing with a list.
func copied(l []api.Token) []api.Token {
	l = slices.Clone(l)
	for i := range l {
		l[i].Attrs = slices.Clone(l[i].Attrs)
	}
	return l
}

func sameLists(a, b [][]api.Token) bool { return slices.EqualFunc(a, b, xml.Same) }

func sameFeed(a, b api.Feed) bool { return a.Title == b.Title && slices.Equal(a.L, b.L) }

// each goes through all lists of at most so many of some pieces.
func each(some []api.Token, most int, try func(l []api.Token)) {
	var grow func(l []api.Token)
	grow = func(l []api.Token) {
		try(l)
		if len(l) == most {
			return
		}
		for _, p := range some {
			grow(append(slices.Clone(l), p))
		}
	}
	grow(nil)
}

// modelNested takes pairs of an open and a close of one name out of what stands within the first and the last piece: nothing may be left.
func modelNested(l []api.Token) bool {
	if len(l) < 2 || l[0].Kind != api.Open || l[len(l)-1].Kind != api.Close || l[0].Name != l[len(l)-1].Name {
		return false
	}
	inner := slices.DeleteFunc(slices.Clone(l[1:len(l)-1]), func(p api.Token) bool { return p.Kind != api.Open && p.Kind != api.Close })
	for i := 0; i+1 < len(inner); {
		a, b := inner[i], inner[i+1]
		if a.Kind == api.Open && b.Kind == api.Close && a.Name == b.Name {
			inner = slices.Delete(inner, i, i+2)
			i = max(0, i-1)
			continue
		}
		i++
	}
	return len(inner) == 0
}

// modelParts looks for the end of each part by counting.
func modelParts(l []api.Token) [][]api.Token {
	if !modelNested(l) {
		return nil
	}
	var all [][]api.Token
	for i := 1; i < len(l)-1; i++ {
		if l[i].Kind != api.Open {
			continue
		}
		more, j := 1, i
		for more > 0 {
			j++
			more += map[int]int{api.Open: 1, api.Close: -1}[l[j].Kind]
		}
		all = append(all, l[i:j+1])
		i = j
	}
	return all
}

// node is an element, or a text, which has no name.
type node struct {
	name, text string
	attrs      []api.Attr
	kids       []node
}

func element(name string, kids ...node) node { return node{name: name, kids: kids} }

func (n node) tokens() []api.Token {
	if n.name == "" {
		return []api.Token{text(n.text)}
	}
	l := []api.Token{open(n.name, n.attrs...)}
	for _, k := range n.kids {
		l = append(l, k.tokens()...)
	}
	return append(l, end(n.name))
}

func (n node) local() string {
	names := strings.Split(n.name, ":")
	return names[len(names)-1]
}

func (n node) all(names ...string) (l []node) {
	for _, k := range n.kids {
		if k.name != "" && slices.Contains(names, k.local()) {
			l = append(l, k)
		}
	}
	return l
}

func (n node) deepText() string {
	s := n.text
	for _, k := range n.kids {
		s += k.deepText()
	}
	return s
}

func (n node) value(names ...string) string {
	if l := n.all(names...); len(l) > 0 {
		return strings.Join(strings.FieldsFunc(l[0].deepText(), func(r rune) bool { return strings.ContainsRune("\t\n\r ", r) }), " ")
	}
	return ""
}

func (n node) attr(name string) (string, bool) {
	for _, a := range n.attrs {
		if (node{name: a.Name}).local() == name {
			return a.Text, true
		}
	}
	return "", false
}

// times are texts of seconds, and the At of an entry that was updated then.
var times = map[string]int{
	"1970-01-01T00:00:00Z":          0,
	"1970-01-01T00:00:01Z":          1,
	"1970-01-01T00:01:00Z":          60,
	"1970-01-01t00:01:00z":          60,
	"1970-01-01T00:01:00.999Z":      60,
	"1970-01-01T01:00:00+01:00":     0,
	"1970-01-01T01:00:01+01:00":     1,
	"1970-01-01T00:00:00-00:01":     60,
	"2000-02-29T00:00:00Z":          951782400,
	"2000-02-29T01:00:00+01:00":     951782400,
	"9999-12-31T23:59:59Z":          253402300799,
	"9999-12-31T23:58:59-00:01":     253402300799,
	"1969-12-31T23:59:59-00:01":     59,
	"1969-12-31T23:59:59Z":          0, // below 0
	"1970-01-01T00:00:59+00:01":     0,
	"1970-01-01T00:00:00+00:01":     0,
	"0001-01-01T00:00:00Z":          0,
	"0001-01-01T00:00:00+23:59":     0,
	"1900-06-01T12:00:00Z":          0,
	"9999-12-31T23:59:00-00:01":     0, // above MaxTime
	"9999-12-31T23:59:59-00:01":     0,
	"9999-12-31T23:59:59-23:59":     0,
	"":                              0, // of another form
	"bad":                           0,
	"60":                            0,
	"2001-02-29T00:00:00Z":          0,
	"2000-02-30T00:00:00Z":          0,
	"2000-02-29T24:00:00Z":          0,
	"2000-02-29T00:00:60Z":          0,
	"2000-02-29T00:00:00":           0,
	"2000-02-29 00:00:00Z":          0,
	"2000-02-29":                    0,
	"2000-02-29T00:00:00Z x":        0,
	"x 2000-02-29T00:00:00Z":        0,
	"Tue, 29 Feb 2000 00:00:00 GMT": 0,
}

var timeTexts = slices.Sorted(maps.Keys(times))

// model is P9.2, read off a tree.
func (n node) model() (f api.Feed, e api.Errno) {
	switch n.local() {
	case "rss":
		channels := n.all("channel")
		if len(channels) == 0 {
			return api.Feed{}, api.ErrForm
		}
		f.Title = channels[0].value("title")
		for _, x := range channels[0].all("item") {
			f.L = append(f.L, api.Entry{Id: x.value("guid"), Title: x.value("title"), Link: x.value("link"), Text: x.value("description")})
		}
	case "feed":
		f.Title = n.value("title")
		for _, x := range n.all("entry") {
			f.L = append(f.L, api.Entry{Id: x.value("id"), Title: x.value("title"), Link: x.alternate(), Text: x.value("summary", "content"), At: times[x.value("updated")]})
		}
	default:
		return api.Feed{}, api.ErrForm
	}
	f.L = f.L[:min(len(f.L), 200)]
	for i := range f.L {
		f.L[i].Text = f.L[i].Text[:min(len(f.L[i].Text), 4000)]
	}
	return f, api.OK
}

func (n node) alternate() string {
	for _, k := range n.all("link") {
		if rel, has := k.attr("rel"); !has || rel == "alternate" {
			href, _ := k.attr("href")
			return href
		}
	}
	return ""
}

// pick is one of some, by chance.
func pick[T any](source *rand.Rand, some ...T) T { return some[source.Intn(len(some))] }

// prefixed is a name by chance whose local part is that one.
func prefixed(source *rand.Rand, name string) string {
	return pick(source, "", "", "", "p:", "a:b:", "item:", ":") + name
}

var ofRss = []string{"title", "guid", "link", "description", "item", "channel"}

var ofAtom = []string{"title", "id", "link", "summary", "content", "updated", "entry"}

// noise are names of elements that count nowhere, though some look as if they did.
var noise = []string{"z", "Title", "titles", "ttl", "title:z", "item:", "entry:x", "ID", "Guid", "links", "itemx", "xentry", "Channel", "pubDate", "author", "category", "rights", "rss", "feed", ""}

func someText(source *rand.Rand) node {
	return node{text: pick(source, "x", "y", " ", "\n\t", " a  b ", "é", "\u00a0", "\xff", "<b>", "&amp;", "1", "\v", "\r")}
}

// someValue is an element whose text counts.
func someValue(source *rand.Rand, name string) node {
	n := element(prefixed(source, name))
	if name == "updated" {
		n.kids = append(n.kids, node{text: pick(source, "", " ", "\n")}, node{text: pick(source, timeTexts...)}, node{text: pick(source, "", " ")})
		return n
	}
	for range source.Intn(4) {
		k := someText(source)
		if source.Intn(4) == 0 {
			k = element(prefixed(source, pick(source, slices.Concat(ofRss, ofAtom, noise[:3])...)), k)
		}
		n.kids = append(n.kids, k)
	}
	for range source.Intn(4) {
		n.attrs = append(n.attrs, attr(prefixed(source, pick(source, "rel", "rel", "href", "href", "type", "title")), pick(source, "alternate", "alternate", "self", "", " alternate", "Alternate", "u", "v", " w ", "x&y")))
	}
	return n
}

// someNoise is an element that counts nowhere; what is within it would count elsewhere.
func someNoise(source *rand.Rand) node {
	n := element(pick(source, "z:", "", "p:") + pick(source, noise...))
	if n.name == "" {
		n.name = "z:" // its local part is empty
	}
	for range source.Intn(3) {
		n.kids = append(n.kids, someValue(source, pick(source, slices.Concat(ofRss, ofAtom)...)))
	}
	return n
}

// someEntry is an element with parts by chance that count, or don't.
func someEntry(source *rand.Rand, name string, names []string) node {
	n := element(prefixed(source, name))
	for range source.Intn(8) {
		n.kids = append(n.kids, someValue(source, pick(source, names...)))
		if source.Intn(4) == 0 {
			n.kids = append(n.kids, someText(source))
		}
	}
	return n
}

func someBody(source *rand.Rand, name, entry string, names []string) node {
	n := element(prefixed(source, name))
	for range source.Intn(6) {
		n.kids = append(n.kids, pick(source, someEntry(source, entry, names), someValue(source, pick(source, names...)), someText(source)))
	}
	return n
}

// someTree is a document by chance, mostly of one of the kinds.
func someTree(source *rand.Rand) node {
	switch source.Intn(9) {
	case 0:
		n := someBody(source, pick(source, "rss", "feed", "RSS", "Feed", "channel", "html", "rdf", "rss:x", "feed2", "xrss"), pick(source, "item", "entry", "channel"), ofRss)
		return n
	case 1, 2, 3, 4:
		n := element(prefixed(source, "rss"))
		for range source.Intn(4) {
			n.kids = append(n.kids, pick(source, someBody(source, "channel", "item", ofRss), someText(source), someNoise(source), someEntry(source, "item", ofRss)))
		}
		return n
	}
	return someBody(source, "feed", "entry", ofAtom)
}

// noisy is a tree with elements of other names put in where they are parts; deep is how far down parts are.
func noisy(source *rand.Rand, n node, deep int) node {
	kids := n.kids
	n.kids = nil
	for _, k := range kids {
		if source.Intn(2) == 0 {
			n.kids = append(n.kids, someNoise(source))
		}
		if k.name != "" && deep > 1 && slices.Contains([]string{"channel", "item", "entry"}, k.local()) {
			k = noisy(source, k, deep-1)
		}
		n.kids = append(n.kids, k)
	}
	if source.Intn(2) == 0 {
		n.kids = append(n.kids, someNoise(source))
	}
	return n
}

// P9.1

func TestValue(t *testing.T) {
	for _, x := range []struct {
		l    []api.Token
		want string
	}{
		{nil, ""},
		{[]api.Token{}, ""},
		{[]api.Token{{}}, ""},
		{[]api.Token{open("a"), end("a")}, ""},
		{[]api.Token{open("a"), text("x"), end("a")}, "x"},
		{[]api.Token{open("a", attr("b", "y")), text("x"), end("a")}, "x"},
		{[]api.Token{text("x")}, "x"},
		{[]api.Token{text("x"), text("y")}, "xy"},
		{[]api.Token{text("x "), text(" y")}, "x y"},
		{[]api.Token{text("x"), text(" "), text("y")}, "x y"},
		{[]api.Token{text(" "), text("x"), text("\n")}, "x"},
		{[]api.Token{text(" \t\r\n"), text(" ")}, ""},
		{[]api.Token{text("\t a \r\n b\tc \n")}, "a b c"},
		{[]api.Token{text("\u00a0a\u00a0")}, "\u00a0a\u00a0"},
		{[]api.Token{text("\va\f")}, "\va\f"},
		{[]api.Token{text("\xe2\x82"), text("\xac")}, "€"},
		{[]api.Token{text("\xff"), text("\x00")}, "\xff\x00"},
		{[]api.Token{text("&amp;"), text("<b>")}, "&amp;<b>"},
		{[]api.Token{open("a"), text("x"), open("b"), text("y"), open("c"), text("z"), end("c"), end("b"), text("w"), end("a")}, "xyzw"},
		{[]api.Token{open("a"), open("b"), text("y"), end("b"), text(" "), open("b"), text("z"), end("b"), end("a")}, "y z"},
		// what is not nested has texts as well
		{[]api.Token{end("a"), text("x"), open("b"), text("y")}, "xy"},
		{[]api.Token{open("a"), text("x"), end("b"), text("y"), end("a"), text("z")}, "xyz"},
	} {
		was := copied(x.l)
		if got := Value(x.l); got != x.want {
			t.Errorf("Value(%v) = %q, want %q", x.l, got, x.want)
		}
		if !xml.Same(x.l, was) {
			t.Errorf("Value changed %v to %v", was, x.l)
		}
	}
	for s, want := range map[string]string{
		"<a>x<b>y<c/></b> <d/></a>":                    "xy",
		"<a> x <!-- n --> <![CDATA[ <y> ]]>&lt;z </a>": "x <y> <z",
		"<a b='1'><?n?></a>":                           "",
		"<a>1<b>2<b>3</b>4</b>5</a>":                   "12345",
		"<a>&#32;&#10;x&#9;&#13;y&#160;</a>":           "x y\u00a0",
	} {
		if got := Value(pieces(t, s)); got != want {
			t.Errorf("Value of %q = %q, want %q", s, got, want)
		}
	}
}

func TestParts(t *testing.T) {
	for s, want := range map[string][]string{
		"<a/>":                          {},
		"<a>x</a>":                      {},
		"<a><b/></a>":                   {"<b/>"},
		"<a>x<b/>y</a>":                 {"<b/>"},
		"<a><b/><b/></a>":               {"<b/>", "<b/>"},
		"<a><b/><c/><d/></a>":           {"<b/>", "<c/>", "<d/>"},
		"<a><a/></a>":                   {"<a/>"},
		"<a><a><a/></a><a/></a>":        {"<a><a/></a>", "<a/>"},
		"<a>x<b>y<c/></b> <d/></a>":     {"<b>y<c/></b>", "<d/>"},
		"<a><b><c><d>x</d></c></b></a>": {"<b><c><d>x</d></c></b>"},
		"<a><b p='1' q='2'> x <c r='3'/></b>z</a>":        {"<b p='1' q='2'> x <c r='3'/></b>"},
		"<a><b><a/></b><a><b/></a><b>x</b></a>":           {"<b><a/></b>", "<a><b/></a>", "<b>x</b>"},
		"<x:a><y:a><x:a/></y:a></x:a>":                    {"<y:a><x:a/></y:a>"},
		"<a><b>1<![CDATA[2]]>3</b><!-- <c/> --><?d?></a>": {"<b>1<![CDATA[2]]>3</b>"},
	} {
		l := pieces(t, s)
		var lists [][]api.Token
		for _, w := range want {
			lists = append(lists, pieces(t, w))
		}
		if got := Parts(l); !sameLists(got, lists) {
			t.Errorf("Parts of %q = %v, want %v", s, got, want)
		}
	}
	// deep, and many
	for _, n := range []int{1, 2, 19, 1000, 70000} {
		var l []api.Token
		for range n {
			l = append(l, open("a"))
		}
		for range n {
			l = append(l, end("a"))
		}
		got := Parts(l)
		if n == 1 && len(got) != 0 || n > 1 && (len(got) != 1 || !xml.Same(got[0], l[1:len(l)-1])) {
			t.Errorf("%d elements within one another: %d parts", n, len(got))
		}
		wide := append(append([]api.Token{open("r")}, slices.Repeat([]api.Token{open("b"), end("b")}, n)...), end("r"))
		if got := Parts(wide); len(got) != n {
			t.Errorf("%d parts: %d", n, len(got))
		}
	}
}

func TestPartsOfWhatIsNotNested(t *testing.T) {
	a, b, enda, endb, x := open("a"), open("b"), end("a"), end("b"), text("x")
	for _, l := range [][]api.Token{
		nil,
		{},
		{a},
		{enda},
		{x},
		{x, x},
		{{Kind: 3}},
		{a, x},
		{a, endb},
		{a, end("A")},
		{a, end("")},
		{a, b},
		{a, b, endb},
		{a, b, enda},
		{a, b, enda, endb},
		{a, b, endb, endb},
		{a, b, endb, b, endb},
		{a, endb, b, enda},
		{a, b, open("c"), endb, end("c"), enda},
		// ahead of the open
		{x, a, b, endb, enda},
		{enda, a, b, endb, enda},
		{endb, b, a, b, endb, enda},
		{{Kind: 3}, a, b, endb, enda},
		{{Kind: -1}, a, b, endb, enda},
		// behind the close
		{a, b, endb, enda, x},
		{a, b, endb, enda, enda},
		{a, b, endb, enda, a},
		{a, b, endb, enda, a, enda},
		{a, b, endb, enda, b, endb},
		{a, enda, x, a, enda},
		{a, enda, a, b, endb, enda},
		{a, enda, b, endb, enda},
		{a, b, endb, enda, {Kind: 3}},
		{a, b, endb, enda, {Kind: math.MinInt}},
		// whole names count, not their local parts
		{open("x:a"), b, endb, enda},
		{a, b, endb, end("x:a")},
		{a, open("x:b"), end("y:b"), enda},
		{open("x:a"), b, endb, end("y:a")},
	} {
		if got := Parts(l); len(got) != 0 {
			t.Errorf("Parts(%v) = %v", l, got)
		}
		if modelNested(l) {
			t.Errorf("the model has %v as nested", l)
		}
	}
}

func TestPartsOfAllShortLists(t *testing.T) {
	some := []api.Token{open("a"), open("b", attr("c", "1")), end("a"), end("b"), text("x")}
	parts := 0
	each(some, 7, func(l []api.Token) {
		was := copied(l)
		got := Parts(l)
		if want := modelParts(l); !sameLists(got, want) {
			t.Fatalf("Parts(%v) = %v, want %v", l, got, want)
		}
		if !xml.Same(l, was) {
			t.Fatalf("Parts changed %v to %v", was, l)
		}
		parts += len(got)
	})
	if parts == 0 {
		t.Error("no list has parts")
	}
}

func TestPartsByChance(t *testing.T) {
	source := rand.New(rand.NewSource(91))
	some := 0
	for range 30000 {
		l := someTree(source).tokens()
		if source.Intn(2) == 0 {
			l = spoilt(source, l)
		}
		got, want := Parts(l), modelParts(l)
		if !sameLists(got, want) {
			t.Fatalf("Parts(%v) = %v, want %v", l, got, want)
		}
		some += len(got)
	}
	if some < 10000 {
		t.Errorf("only %d parts", some)
	}
}

// spoilt is a list with some pieces less, more or changed.
func spoilt(source *rand.Rand, l []api.Token) []api.Token {
	l = copied(l)
	for range 1 + source.Intn(2) {
		i := source.Intn(len(l) + 1)
		switch {
		case source.Intn(3) == 0 || i == len(l):
			p := pick(source, open("a"), end("a"), text("x"), end("rss"), open("item"), end("feed"))
			l = slices.Insert(l, i, p)
		case source.Intn(2) == 0:
			l = slices.Delete(l, i, i+1)
		default:
			l[i].Name += pick(source, "", "x")
		}
	}
	return l
}

// R3: what is answered is the caller's own, and no two lists of it share anything.
func TestPartsAreTheCallersOwn(t *testing.T) {
	shared := []api.Attr{attr("p", "1"), attr("q", "2")}
	l := []api.Token{open("a", shared...), open("b", shared...), open("c", shared...), end("c"), end("b"), open("b", shared...), end("b"), end("a")}
	l[1].Attrs, l[2].Attrs, l[5].Attrs = shared, shared, shared
	was := copied(l)
	got := Parts(l)
	want := [][]api.Token{copied(l[1:5]), copied(l[5:7])}
	for i := range l {
		l[i].Name, l[i].Text = "changed", "changed"
	}
	shared[0].Text = "changed"
	if !sameLists(got, want) {
		t.Fatalf("what was handed in changes %v", got)
	}
	l = copied(was)
	got = Parts(l)
	for i := range got {
		for j := range got[i] {
			got[i][j].Name = "changed"
			for k := range got[i][j].Attrs {
				got[i][j].Attrs[k] = attr("changed", "changed")
			}
			_ = append(got[i][j].Attrs, attr("more", "more"))
			want[i][j].Name = "changed"
			for k := range want[i][j].Attrs {
				want[i][j].Attrs[k] = attr("changed", "changed")
			}
			if !sameLists(got, want) {
				t.Fatalf("piece %d of part %d shares with others: %v", j, i, got)
			}
		}
		_ = append(got[i], text("more"))
		if !sameLists(got, want) || !xml.Same(l, was) {
			t.Fatalf("part %d shares with others", i)
		}
	}
	if !xml.Same(l, was) {
		t.Errorf("what is answered changes %v", l)
	}
}

// P9.2

// reads holds what Extract and Read tell of a document against what they should.
func reads(t *testing.T, s string, want api.Feed, wantE api.Errno) {
	t.Helper()
	l := pieces(t, s)
	was := copied(l)
	if f, e := Extract(l); e != wantE || !sameFeed(f, want) {
		t.Errorf("Extract of %.400q = %.400v, %d, want %.400v, %d", s, f, e, want, wantE)
	}
	if !xml.Same(l, was) {
		t.Errorf("Extract changed the pieces of %.400q", s)
	}
	if f, e := Read([]byte(s)); e != wantE || !sameFeed(f, want) {
		t.Errorf("Read(%.400q) = %.400v, %d, want %.400v, %d", s, f, e, want, wantE)
	}
}

func TestExtractOfRss(t *testing.T) {
	for s, want := range map[string]api.Feed{
		"<rss><channel/></rss>": {},
		"<rss><channel><title>T</title><item><guid>1</guid></item></channel></rss>": {Title: "T", L: []api.Entry{{Id: "1"}}},
		"<rss><channel> <title/> <item/> </channel></rss>":                          {L: []api.Entry{{}}},
		"<rss><channel><item> <guid> 1\n2 </guid><title> a  b </title><link>\nhttp://x/ </link><description>\t&lt;p&gt;x &amp;amp; y </description></item></channel></rss>": {L: []api.Entry{{Id: "1 2", Title: "a b", Link: "http://x/", Text: "<p>x &amp; y"}}},
		// in any order, the first one of each
		"<rss><channel><item><description>d</description><link>l</link><title>t</title><guid>g</guid></item><title>F</title></channel></rss>":                                                                                         {Title: "F", L: []api.Entry{entry("g", "t", "l", "d", 0)}},
		"<rss><channel><title>1</title><title>2</title><item><guid>3</guid><guid>4</guid><title>5</title><title>6</title><link>7</link><link>8</link><description>9</description><description>0</description></item></channel></rss>": {Title: "1", L: []api.Entry{entry("3", "5", "7", "9", 0)}},
		"<rss><channel><title/><title>2</title><item><guid/><guid>4</guid><title> </title><title>6</title><link/><link>8</link><description/><description>0</description></item></channel></rss>":                                     {L: []api.Entry{{}}},
		// the first channel, wherever it stands
		"<rss>x<z/><channel><title>F</title><item><guid>1</guid></item></channel><channel><title>G</title><item><guid>2</guid></item></channel></rss>": {Title: "F", L: []api.Entry{{Id: "1"}}},
		"<rss><channel/><channel><title>G</title><item><guid>2</guid></item></channel></rss>":                                                          {},
		"<rss><title>x</title><item/><channel><title>F</title></channel><item/></rss>":                                                                 {Title: "F"},
		"<rss><z><channel><title>x</title></channel></z><channel><title>F</title></channel></rss>":                                                     {Title: "F"},
		"<rss><channel><channel><title>x</title><item/></channel></channel></rss>":                                                                     {},
		// only parts count
		"<rss><channel><image><title>x</title><item/></image><item><z><guid>1</guid><title>t</title><link>l</link><description>d</description></z></item></channel></rss>": {L: []api.Entry{{}}},
		"<rss><channel><item><item><guid>1</guid></item><title>t</title></item></channel></rss>":                                                                           {L: []api.Entry{{Title: "t"}}},
		"<rss><channel><item><title>t</title></item><item><guid>g</guid></item></channel></rss>":                                                                           {L: []api.Entry{{Title: "t"}, {Id: "g"}}},
		"<rss><channel><item><title>a<b>b<title>c</title></b>d</title></item></channel></rss>":                                                                             {L: []api.Entry{{Title: "abcd"}}},
		// local parts
		"<x:rss><y:channel><a:title>F</a:title><b:c:item><d:guid>1</d:guid><guid>2</guid><e:title>t</e:title><f:link>l</f:link><g:description>d</g:description></b:c:item></y:channel></x:rss>": {Title: "F", L: []api.Entry{entry("1", "t", "l", "d", 0)}},
		"<rss><channel><item><a:link href='x'/><link>l</link></item></channel></rss>":                                                                                                           {L: []api.Entry{{}}},
		"<rss><title:channel/><channel:title/><channel><item:title>x</item:title><title:item/></channel></rss>":                                                                                 {},
		"<rss:rss><channel><title:x>no</title:x><item:>no</item:></channel></rss:rss>":                                                                                                          {},
		// what is of the other kind doesn't count
		"<rss><channel><entry/><item><id>1</id><updated>1970-01-01T00:01:00Z</updated><summary>s</summary><content>c</content><pubDate>x</pubDate><link href='u'/></item></channel></rss>": {L: []api.Entry{{}}},
		// letters are small
		"<rss><Channel/><channel><Title>x</Title><Item/><ITEM/><item><Guid>1</Guid><GUID>2</GUID><Title>t</Title></item></channel></rss>": {L: []api.Entry{{}}},
		// other pieces of a document
		"<?xml version='1.0'?>\n<!DOCTYPE rss>\n<rss version='2.0'><channel><!-- <item/> --><title><![CDATA[a < b]]> &amp; c</title><item><description><![CDATA[<p>x</p>]]></description></item></channel></rss>\n": {Title: "a < b & c", L: []api.Entry{{Text: "<p>x</p>"}}},
	} {
		reads(t, s, want, api.OK)
	}
}

func TestExtractOfAtom(t *testing.T) {
	for s, want := range map[string]api.Feed{
		"<feed/>":               {},
		"<feed>x</feed>":        {},
		"<feed><entry/></feed>": {L: []api.Entry{{}}},
		"<feed><title> A\nb </title><entry><id> i </id><title> t  u </title><link href='y'/><summary> s\ts </summary><updated>\n1970-01-01T00:01:00Z </updated></entry></feed>": {Title: "A b", L: []api.Entry{entry("i", "t u", "y", "s s", 60)}},
		"<feed><entry><updated>1970-01-01T00:00:02Z</updated><summary>s</summary><link href='l'/><title>t</title><id>i</id></entry><title>F</title></feed>":                     {Title: "F", L: []api.Entry{entry("i", "t", "l", "s", 2)}},
		// the first one of each
		"<feed><title>1</title><title>2</title><entry><id>3</id><id>4</id><title>5</title><title>6</title><updated>1970-01-01T00:00:07Z</updated><updated>1970-01-01T00:00:08Z</updated></entry></feed>": {Title: "1", L: []api.Entry{{Id: "3", Title: "5", At: 7}}},
		"<feed><title/><title>2</title><entry><id/><id>4</id><title/><title>6</title><updated/><updated>1970-01-01T00:00:08Z</updated></entry></feed>":                                                   {L: []api.Entry{{}}},
		"<feed><entry><updated>bad</updated><updated>1970-01-01T00:00:08Z</updated></entry></feed>":                                                                                                      {L: []api.Entry{{}}},
		// the first one that is summary or content
		"<feed><entry><summary>s</summary><content>c</content></entry></feed>":                                 {L: []api.Entry{{Text: "s"}}},
		"<feed><entry><content>c</content><summary>s</summary></entry></feed>":                                 {L: []api.Entry{{Text: "c"}}},
		"<feed><entry><content>c</content></entry></feed>":                                                     {L: []api.Entry{{Text: "c"}}},
		"<feed><entry><summary>s</summary></entry></feed>":                                                     {L: []api.Entry{{Text: "s"}}},
		"<feed><entry><summary/><content>c</content></entry></feed>":                                           {L: []api.Entry{{}}},
		"<feed><entry><content> </content><summary>s</summary></entry></feed>":                                 {L: []api.Entry{{}}},
		"<feed><entry><z/><title>t</title><x:content>a<b>b</b></x:content><summary>s</summary></entry></feed>": {L: []api.Entry{{Title: "t", Text: "ab"}}},
		"<feed><entry><content src='u' type='x'/></entry></feed>":                                              {L: []api.Entry{{}}},
		// only parts count
		"<feed><z><title>x</title><entry/></z><author><id>x</id></author><entry><source><id>x</id><title>x</title><updated>1970-01-01T00:01:00Z</updated><link href='x'/><summary>x</summary></source></entry></feed>": {L: []api.Entry{{}}},
		"<feed><id>x</id><link href='x'/><updated>1970-01-01T00:01:00Z</updated><summary>x</summary><entry/></feed>":                                                                                                   {L: []api.Entry{{}}},
		"<feed><entry><entry><id>x</id></entry></entry><entry><id>y</id></entry></feed>":                                                                                                                               {L: []api.Entry{{}, {Id: "y"}}},
		"<feed><feed><title>x</title><entry/></feed></feed>":                                                                                                                                                           {},
		"<feed><channel><title>x</title><item/></channel></feed>":                                                                                                                                                      {},
		"<feed><title>a<title>b</title>c</title></feed>":                                                                                                                                                               {Title: "abc"},
		// local parts
		"<a:feed><b:title>F</b:title><c:entry><d:id>i</d:id><id>j</id><e:title>t</e:title><f:link href='l'/><g:h:summary>s</g:h:summary><i:updated>1970-01-01T00:00:03Z</i:updated></c:entry></a:feed>": {Title: "F", L: []api.Entry{entry("i", "t", "l", "s", 3)}},
		"<feed:feed><entry:id/><title:x>no</title:x><entry><id:title>t</id:title></entry></feed:feed>":                                                                                                  {L: []api.Entry{{Title: "t"}}},
		// what is of the other kind doesn't count
		"<feed><item/><entry><guid>1</guid><description>d</description><pubDate>x</pubDate><link>l</link><published>1970-01-01T00:01:00Z</published></entry></feed>": {L: []api.Entry{{}}},
		// letters are small
		"<feed><Title>x</Title><Entry/><entry><ID>1</ID><Id>2</Id><Updated>1970-01-01T00:01:00Z</Updated><Summary>s</Summary><Content>c</Content><Link href='x'/></entry></feed>": {L: []api.Entry{{}}},
	} {
		reads(t, s, want, api.OK)
	}
}

func TestExtractOfLinks(t *testing.T) {
	for links, want := range map[string]string{
		"":                                 "",
		"<link/>":                          "",
		"<link href=''/>":                  "",
		"<link href='u'/>":                 "u",
		"<link>x</link>":                   "",
		"<link href='u'>x</link>":          "u",
		"<link href=' u  v '/>":            " u  v ", // not without blanks
		"<link href='&#10;u&amp;v'/>":      "\nu&v",
		"<x:link href='u'/>":               "u",
		"<link href='u'/><link href='v'/>": "u",
		"<link/><link href='v'/>":          "",
		// alternate, or nothing
		"<link rel='alternate' href='u'/>":      "u",
		"<link href='u' rel='alternate'/>":      "u",
		"<link rel='alternate'/>":               "",
		"<link rel='self' href='u'/>":           "",
		"<link rel='' href='u'/>":               "",
		"<link rel='Alternate' href='u'/>":      "",
		"<link rel='ALTERNATE' href='u'/>":      "",
		"<link rel=' alternate' href='u'/>":     "",
		"<link rel='alternate ' href='u'/>":     "",
		"<link rel='alternates' href='u'/>":     "",
		"<link rel='alt' href='u'/>":            "",
		"<link rel='alternate self' href='u'/>": "",
		"<link rel='&#97;lternate' href='u'/>":  "u",
		"<link rels='self' href='u'/>":          "u",
		"<link Rel='self' href='u'/>":           "u",
		"<link type='self' href='u'/>":          "u",
		"<link HREF='x' hrefs='y'/>":            "",
		// the first one that counts
		"<link rel='self' href='u'/><link href='v'/>":                                          "v",
		"<link rel='self' href='u'/><link rel='alternate' href='v'/>":                          "v",
		"<link rel='alternate' href='u'/><link href='v'/>":                                     "u",
		"<link href='u'/><link rel='alternate' href='v'/>":                                     "u",
		"<link rel='self' href='t'/><link href='u'/><link rel='alternate' href='v'/>":          "u",
		"<link rel='self' href='t'/><link rel='edit' href='u'/>":                               "",
		"<link rel='self' href='t'/><link rel='' href='u'/><x:link rel='alternate' href='v'/>": "v",
		"<link rel='self'/><link rel='alternate'/><link href='v'/>":                            "",
		"<z><link href='t'/></z><links href='u'/><link rel='alternate' href='v'/>":             "v",
		"<link rel='self' href='t'><link href='u'/></link>":                                    "",
		// all names are local
		"<link x:href='u'/>":                            "u",
		"<link x:href='u' href='v'/>":                   "u",
		"<link href='v' x:href='u'/>":                   "v",
		"<link x:rel='self' href='u'/>":                 "",
		"<link x:rel='alternate' href='u'/>":            "u",
		"<link x:rel='alternate' rel='self' href='u'/>": "u",
		"<link rel='self' x:rel='alternate' href='u'/>": "",
		"<link rel:x='self' href:x='u' href='v'/>":      "v",
	} {
		reads(t, "<feed><entry>"+links+"</entry></feed>", api.Feed{L: []api.Entry{{Link: want}}}, api.OK)
		reads(t, "<feed>"+links+"<entry>"+links+"</entry><entry><link href='other'/></entry></feed>", api.Feed{L: []api.Entry{{Link: want}, {Link: "other"}}}, api.OK)
	}
	// no document has two attributes of one name, but a list may
	for _, x := range []struct {
		attrs []api.Attr
		want  string
	}{
		{[]api.Attr{attr("href", "u"), attr("href", "v")}, "u"},
		{[]api.Attr{attr("href", ""), attr("href", "v")}, ""},
		{[]api.Attr{attr("rel", "self"), attr("rel", "alternate"), attr("href", "u")}, ""},
		{[]api.Attr{attr("rel", "alternate"), attr("rel", "self"), attr("href", "u")}, "u"},
		{[]api.Attr{attr("href", "u"), attr("rel", ""), attr("rel", "alternate")}, ""},
		{[]api.Attr{attr("rel", "alternate"), attr("href", "u"), attr("rel", "self"), attr("href", "v")}, "u"},
	} {
		l := []api.Token{open("feed"), open("entry"), open("link", x.attrs...), end("link"), end("entry"), end("feed")}
		if f, e := Extract(l); e != api.OK || !sameFeed(f, api.Feed{L: []api.Entry{{Link: x.want}}}) {
			t.Errorf("%v: %v, %d, want %q", x.attrs, f, e, x.want)
		}
	}
}

func TestExtractOfTimes(t *testing.T) {
	for s, want := range times {
		reads(t, "<feed><entry><updated>"+s+"</updated></entry></feed>", api.Feed{L: []api.Entry{{At: want}}}, api.OK)
		reads(t, "<feed><entry><x:updated>\n\t"+s+" </x:updated><id>i</id></entry></feed>", api.Feed{L: []api.Entry{{Id: "i", At: want}}}, api.OK)
		reads(t, "<rss><channel><item><updated>"+s+"</updated></item></channel></rss>", api.Feed{L: []api.Entry{{}}}, api.OK)
	}
	reads(t, "<feed><entry><updated>1970-01-01<b>T</b>00:<![CDATA[01]]>:00Z</updated></entry></feed>", api.Feed{L: []api.Entry{{At: 60}}}, api.OK)
}

func TestExtractOfAnotherForm(t *testing.T) {
	for _, s := range []string{
		// no channel
		"<rss/>", "<rss>x</rss>", "<rss><item/></rss>", "<rss><title>x</title></rss>", "<rss><z><channel/></z></rss>", "<rss><Channel/></rss>", "<rss><channels/></rss>", "<rss><channel:x/></rss>", "<rss><entry/></rss>", "<x:rss/>", "<rss><rss><channel/></rss></rss>", "<rss channel=''/>",
		// another name
		"<html/>", "<a/>", "<channel/>", "<channel><title>x</title><item/></channel>", "<item/>", "<entry/>", "<RSS><channel/></RSS>", "<Rss><channel/></Rss>", "<FEED/>", "<Feed/>", "<feeds/>", "<rss2><channel/></rss2>", "<xfeed/>", "<rss:x><channel/></rss:x>", "<feed:x/>", "<feed:/>", "<rss:feed:/>", "<rdf:RDF><channel/><item/></rdf:RDF>", "<a><feed/></a>", "<a><rss><channel/></rss></a>", "<_/>",
	} {
		reads(t, s, api.Feed{}, api.ErrForm)
	}
	channel := []api.Token{open("channel"), open("title"), text("x"), end("title"), open("item"), end("item"), end("channel")}
	for _, l := range [][]api.Token{
		nil,
		{},
		{text("x")},
		{{Kind: 3, Name: "feed"}},
		{open("feed")},
		{end("feed")},
		{end("feed"), open("feed")},
		{open("feed"), end("Feed")},
		{open("feed"), end("x:feed")},
		{open("feed"), end("rss")},
		{open("feed"), open("entry"), end("feed")},
		{open("feed"), end("entry"), end("feed")},
		{open("feed"), open("entry"), end("feed"), end("entry")},
		{open("feed"), end("feed"), text(" ")},
		{text(" "), open("feed"), end("feed")},
		{open("feed"), end("feed"), end("feed")},
		{open("feed"), end("feed"), open("feed"), end("feed")},
		{open("feed"), open("z"), open("y"), end("z"), end("y"), end("feed")},
		append([]api.Token{open("rss")}, channel...),
		append(append([]api.Token{open("rss")}, channel...), end("feed")),
		append(append([]api.Token{open("rss")}, channel...), end("rss"), text("x")),
		append(append([]api.Token{text("x"), open("rss")}, channel...), end("rss")),
		append(append([]api.Token{open("rss")}, channel...), open("channel"), end("rss")),
		append(append([]api.Token{open("rss")}, channel[:len(channel)-1]...), end("rss")),
		channel,
		{open(""), end("")},
		{open("rss:"), open("channel"), end("channel"), end("rss:")},
	} {
		if f, e := Extract(l); e != api.ErrForm || f.Title != "" || len(f.L) != 0 {
			t.Errorf("Extract(%v) = %v, %d", l, f, e)
		}
	}
}

func TestExtractOfManyEntries(t *testing.T) {
	for _, n := range []int{0, 1, 2, 199, 200, 201, 202, 399, 400, 1000} {
		var rss, atom strings.Builder
		want := api.Feed{Title: "F"}
		for i := range n {
			id := strconv.Itoa(i)
			rss.WriteString("<z/><item><guid>" + id + "</guid></item>")
			atom.WriteString("<z/><entry><id>" + id + "</id></entry>")
			if i < 200 {
				want.L = append(want.L, api.Entry{Id: id})
			}
		}
		for _, title := range []string{"<title>F</title>", "<x:title>F</x:title><title>G</title>"} {
			reads(t, "<rss><channel>"+title+rss.String()+"</channel></rss>", want, api.OK)
			reads(t, "<rss><channel>"+rss.String()+title+"</channel></rss>", want, api.OK)
			reads(t, "<feed>"+title+atom.String()+"</feed>", want, api.OK)
			reads(t, "<feed>"+atom.String()+title+"</feed>", want, api.OK)
		}
	}
	l := append(append([]api.Token{open("feed")}, slices.Repeat([]api.Token{open("entry"), end("entry")}, 100000)...), end("feed"))
	if f, e := Extract(l); e != api.OK || len(f.L) != 200 {
		t.Errorf("of 100000 entries: %d, %d", len(f.L), e)
	}
}

func TestExtractOfLongTexts(t *testing.T) {
	for _, n := range []int{3998, 3999, 4000, 4001, 4002, 8000, 16000} {
		for _, x := range []struct{ ahead, with, behind string }{
			{"", "x", ""}, {"", "é", ""}, {"a", "é", ""}, {"", "€", ""}, {"a", "😀", ""}, {"", "x ", ""}, {"x", " x", ""}, {"", "\xff", ""}, {"", "x\u00a0", "y"}, {"", "&<>", ""},
		} {
			value := x.ahead + strings.Repeat(x.with, n/len(x.with)) + x.behind
			trim := strings.TrimRight(value, " ")
			want := api.Entry{Text: trim[:min(len(trim), 4000)]}
			l := (node{name: "rss", kids: []node{element("channel", element("item", element("description", node{text: " \n" + value + " "})))}}).tokens()
			if f, e := Extract(l); e != api.OK || !sameFeed(f, api.Feed{L: []api.Entry{want}}) {
				t.Errorf("%q, %d bytes: %d bytes, %d", x.with, n, len(f.L[0].Text), e)
			}
			for _, name := range []string{"summary", "content"} {
				l := (node{name: "feed", kids: []node{element("entry", element(name, node{text: "\t"}, node{text: value[:n/2]}, node{text: value[n/2:]}))}}).tokens()
				if f, e := Extract(l); e != api.OK || !sameFeed(f, api.Feed{L: []api.Entry{want}}) {
					t.Errorf("%s: %q, %d bytes: %d bytes, %d", name, x.with, n, len(f.L[0].Text), e)
				}
			}
		}
		// what is not the text of an entry is as long as it stands there
		long := strings.Repeat("x", n)
		cut := long[:min(n, 4000)]
		reads(t, "<rss><channel><title>"+long+"</title><item><guid>"+long+"</guid><title>"+long+"</title><link>"+long+"</link><description>"+long+"</description></item></channel></rss>",
			api.Feed{Title: long, L: []api.Entry{entry(long, long, long, cut, 0)}}, api.OK)
		reads(t, "<feed><title>"+long+"</title><entry><id>"+long+"</id><title>"+long+"</title><link href='"+long+"'/><content>"+long+"</content></entry></feed>",
			api.Feed{Title: long, L: []api.Entry{entry(long, long, long, cut, 0)}}, api.OK)
	}
}

func TestExtractOfTreesByChance(t *testing.T) {
	source := rand.New(rand.NewSource(92))
	fine, entries, read := 0, 0, 0
	for range 60000 {
		n := someTree(source)
		l := n.tokens()
		want, wantE := n.model()
		f, e := Extract(l)
		if e != wantE || !sameFeed(f, want) {
			t.Fatalf("Extract(%v) = %v, %d, want %v, %d", l, f, e, want, wantE)
		}
		if e == api.OK {
			fine++
			entries += len(f.L)
		}
		if s, e := xml.Write(l); e == api.OK {
			read++
			if f, e := Read(s); e != wantE || !sameFeed(f, want) {
				t.Fatalf("Read(%q) = %v, %d, want %v, %d", s, f, e, want, wantE)
			}
		}
	}
	if fine < 30000 || entries < 10000 || read < 100 {
		t.Errorf("only %d feeds, %d entries, %d documents", fine, entries, read)
	}
}

func TestExtractOfSpoiltLists(t *testing.T) {
	source := rand.New(rand.NewSource(93))
	none := 0
	for range 30000 {
		l := spoilt(source, someTree(source).tokens())
		f, e := Extract(l)
		if !modelNested(l) {
			none++
			if e != api.ErrForm || f.Title != "" || len(f.L) != 0 {
				t.Fatalf("Extract(%v) = %v, %d", l, f, e)
			}
		}
	}
	if none < 10000 {
		t.Errorf("only %d", none)
	}
}

// P9.3

func TestReadTellsTheErrorsOfXml(t *testing.T) {
	deep := strings.Repeat("<a>", 21)
	for s, want := range map[string]api.Errno{
		"":                     api.ErrForm,
		" ":                    api.ErrForm,
		"x":                    api.ErrForm,
		"<a>":                  api.ErrForm,
		"<feed>":               api.ErrForm,
		"<feed/><feed/>":       api.ErrForm,
		"<feed/>x":             api.ErrForm,
		"x<feed/>":             api.ErrForm,
		"<feed>&x;</feed>":     api.ErrForm,
		"<feed><entry></feed>": api.ErrForm,
		"<feed a='1' a='2'/>":  api.ErrForm,
		"<rss><channel></rss>": api.ErrForm,
		"<feed><entry/></feed": api.ErrForm,
		"<feed><!-- </feed>":   api.ErrForm,
		deep:                   api.ErrDeep,
		"<feed>" + deep:        api.ErrDeep,
		"<feed>" + deep + strings.Repeat("</a>", 21) + "</feed>":          api.ErrDeep,
		"<rss><channel><item>" + strings.Repeat("<title>", 18) + "</rss>": api.ErrDeep,
		"<html>" + deep + strings.Repeat("</a>", 21) + "</html>":          api.ErrDeep,
		"<feed/>" + strings.Repeat(" ", 100000):                           api.ErrOver,
		"<html/>" + strings.Repeat(" ", 100000):                           api.ErrOver,
		strings.Repeat("<a>", 40000):                                      api.ErrOver,
		strings.Repeat("x", 100001):                                       api.ErrOver,
		"<feed><title>" + strings.Repeat("x", 100000) + "</title></feed>": api.ErrOver,
	} {
		b := []byte(s)
		f, e := Read(b)
		if e != want || f.Title != "" || len(f.L) != 0 {
			t.Errorf("Read(%.100q) = %v, %d, want %d", s, f, e, want)
		}
		if string(b) != s {
			t.Errorf("Read changed %.100q", s)
		}
	}
	if f, e := Read(nil); e != api.ErrForm || f.Title != "" || len(f.L) != 0 {
		t.Errorf("Read(nil) = %v, %d", f, e)
	}
	at := "<feed><title>T</title></feed>"
	reads(t, at+strings.Repeat(" ", 100000-len(at)), api.Feed{Title: "T"}, api.OK)
	within := strings.Repeat("<b>", 18) + "x" + strings.Repeat("</b>", 18)
	reads(t, "<feed><title>"+within+"</title></feed>", api.Feed{Title: "x"}, api.OK)
}

// Read is Extract of Tokens, also of bytes by chance.
func TestReadIsExtractOfTokens(t *testing.T) {
	source := rand.New(rand.NewSource(94))
	parts := []string{"<rss>", "</rss>", "<feed>", "</feed>", "<channel>", "</channel>", "<item>", "</item>", "<entry>", "</entry>", "<title>x</title>", "<guid>1</guid>", "<id>2</id>", "<link href='u'/>", "<item/>", "<entry/>", "<channel/>", " ", "x", "&amp;", "&", "<", "<!-- -->"}
	fine := 0
	for range 60000 {
		inner := ""
		for range source.Intn(6) {
			inner += pick(source, parts...)
		}
		s := pick(source, "<feed>"+inner+"</feed>", "<rss><channel>"+inner+"</channel></rss>", "<rss>"+inner+"</rss>", inner)
		l, wantE := xml.Tokens([]byte(s))
		var want api.Feed
		if wantE == api.OK {
			want, wantE = Extract(l)
		}
		f, e := Read([]byte(s))
		if e != wantE || !sameFeed(f, want) {
			t.Fatalf("Read(%q) = %v, %d, want %v, %d", s, f, e, want, wantE)
		}
		if e == api.OK {
			fine++
		}
	}
	if fine < 1000 {
		t.Errorf("only %d", fine)
	}
}

// R3: what is answered doesn't hang on the bytes any more.
func TestReadKeepsNoBytes(t *testing.T) {
	s := "<feed><title>A</title><entry><id>i</id><title>t</title><link href='u'/><summary>s</summary></entry></feed>"
	b := []byte(s)
	f, _ := Read(b)
	for i := range b {
		b[i] = '#'
	}
	want := api.Feed{Title: "A", L: []api.Entry{entry("i", "t", "u", "s", 0)}}
	if !sameFeed(f, want) {
		t.Errorf("%v", f)
	}
	g, _ := Read([]byte(s))
	g.L[0] = api.Entry{}
	if h, _ := Read([]byte(s)); !sameFeed(h, want) {
		t.Errorf("%v", h)
	}
	l := pieces(t, s)
	f, _ = Extract(l)
	for i := range l {
		l[i].Name, l[i].Text = "#", "#"
		for j := range l[i].Attrs {
			l[i].Attrs[j] = attr("#", "#")
		}
	}
	if !sameFeed(f, want) {
		t.Errorf("%v", f)
	}
}

// P9.4

// There are as many entries as elements that are such, wherever others stand among them.
func TestAsManyEntriesAsElements(t *testing.T) {
	source := rand.New(rand.NewSource(95))
	for range 3000 {
		kind, entry := "feed", "entry"
		if source.Intn(2) == 0 {
			kind, entry = "channel", "item"
		}
		n := element(prefixed(source, kind))
		such := 0
		for range source.Intn(60) * pick(source, 1, 1, 1, 8) {
			k := pick(source, element(prefixed(source, entry)), someNoise(source), someText(source), element(pick(source, "z", "p:title"), element(entry)))
			if k.name != "" && k.local() == entry {
				such++
			}
			n.kids = append(n.kids, k)
		}
		if kind == "channel" {
			n = element("rss", n)
		}
		if f, e := Extract(n.tokens()); e != api.OK || len(f.L) != min(such, 200) {
			t.Fatalf("Extract(%v): %d entries, %d, want %d", n.tokens(), len(f.L), e, such)
		}
	}
}

// Elements of other names change nothing, wherever they are parts.
func TestElementsOfOtherNames(t *testing.T) {
	source := rand.New(rand.NewSource(96))
	fine := 0
	for range 30000 {
		n := someTree(source)
		want, wantE := Extract(n.tokens())
		deep := 2
		if n.local() == "rss" {
			deep = 3
		}
		l := noisy(source, n, deep).tokens()
		f, e := Extract(l)
		if e != wantE || !sameFeed(f, want) {
			t.Fatalf("Extract(%v) = %v, %d, but without the others %v, %d", l, f, e, want, wantE)
		}
		if e == api.OK {
			fine++
		}
	}
	if fine < 10000 {
		t.Errorf("only %d feeds", fine)
	}
}

// Entries stand in the order of their elements.
func TestOrderOfEntries(t *testing.T) {
	for n := range 60 {
		root := element("feed")
		for i := range n {
			root.kids = append(root.kids, element("entry", element("id", node{text: strconv.Itoa(i * 7 % 60)})))
		}
		f, e := Extract(root.tokens())
		if e != api.OK || len(f.L) != n {
			t.Fatalf("%d entries: %d, %d", n, len(f.L), e)
		}
		for i, x := range f.L {
			if x.Id != strconv.Itoa(i*7%60) {
				t.Errorf("entry %d of %d is %q", i, n, x.Id)
			}
		}
	}
}

// R1, R3 and R5

func TestAnyLists(t *testing.T) {
	source := rand.New(rand.NewSource(97))
	names := []string{"", ":", "a", "rss", "feed", "channel", "item", "entry", "title", "link", "x:feed", "feed:", "\xff", strings.Repeat("n", 1000)}
	kinds := []int{api.Open, api.Open, api.Close, api.Close, api.Text, 3, -1, math.MaxInt, math.MinInt}
	for range 100000 {
		var l []api.Token
		for range source.Intn(10) {
			p := api.Token{Kind: pick(source, kinds...), Name: pick(source, names...), Text: pick(source, "", "", "x", " ")}
			for range source.Intn(3) {
				p.Attrs = append(p.Attrs, attr(pick(source, "rel", "href", "", ":rel"), pick(source, "", "alternate", "u")))
			}
			l = append(l, p)
		}
		was := copied(l)
		value, parts := Value(l), Parts(l)
		f, e := Extract(l)
		if !xml.Same(l, was) {
			t.Fatalf("%v is %v now", was, l)
		}
		if Value(l) != value || !sameLists(Parts(l), parts) {
			t.Fatalf("%v: asked again, another answer", l)
		}
		if g, e2 := Extract(l); e2 != e || !sameFeed(g, f) || e != api.OK && !reflect.DeepEqual(g, api.Feed{}) {
			t.Fatalf("Extract(%v) = %v, %d, and %v, %d", l, f, e, g, e2)
		}
		if !modelNested(l) && (len(parts) != 0 || e != api.ErrForm) {
			t.Fatalf("%v is not nested: %v, %d", l, parts, e)
		}
	}
}

func TestAnyBytes(t *testing.T) {
	source := rand.New(rand.NewSource(98))
	for range 20000 {
		b := make([]byte, source.Intn(60))
		source.Read(b)
		if source.Intn(2) == 0 {
			b = append(append([]byte("<feed>"), b...), "</feed>"...)
		}
		was := bytes.Clone(b)
		f, e := Read(b)
		g, e2 := Read(b)
		if e != e2 || !sameFeed(f, g) || !bytes.Equal(b, was) {
			t.Fatalf("Read(%q) = %v, %d, and %v, %d", was, f, e, g, e2)
		}
	}
}

// Lists that are long, or deep, or have much that counts late, take no longer than others.
func TestListsMadeToTakeLong(t *testing.T) {
	const many = 1 << 16
	item := element("item", slices.Repeat([]node{element("z")}, 300)...)
	entry := element("entry", slices.Repeat([]node{{name: "link", attrs: slices.Repeat([]api.Attr{attr("x", "y")}, 10)}}, 300)...)
	start := time.Now()
	for _, l := range [][]api.Token{
		append(append([]api.Token{open("feed")}, slices.Repeat([]api.Token{open("entry")}, many)...), append(slices.Repeat([]api.Token{end("entry")}, many), end("feed"))...),
		append(append([]api.Token{open("feed")}, slices.Repeat([]api.Token{text("x")}, 1<<20)...), end("feed")),
		append(append([]api.Token{open("feed"), open("title")}, slices.Repeat([]api.Token{text("x y ")}, 1<<20)...), end("title"), end("feed")),
		element("rss", element("channel", slices.Repeat([]node{item}, 400)...)).tokens(),
		element("feed", slices.Repeat([]node{entry}, 400)...).tokens(),
		element("rss", slices.Repeat([]node{element("z")}, 1<<18)...).tokens(),
		slices.Repeat([]api.Token{open("feed")}, 1<<20),
	} {
		Extract(l)
		Parts(l)
		Value(l)
	}
	if took := time.Since(start); took > 20*time.Second {
		t.Errorf("%v", took)
	}
}
