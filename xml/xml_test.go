package xml

import (
	"bytes"
	"math"
	"math/rand"
	"regexp"
	"slices"
	"strconv"
	"strings"
	"testing"
	"time"

	"mailcoach/api"
	"mailcoach/ent"
)

func open(name string, attrs ...api.Attr) api.Token { return api.Token{Name: name, Attrs: attrs} }

func end(name string) api.Token { return api.Token{Kind: api.Close, Name: name} }

func text(s string) api.Token { return api.Token{Kind: api.Text, Text: s} }

func attr(name, text string) api.Attr { return api.Attr{Name: name, Text: text} }

// nested is n elements, one within the other.
func nested(n int) string { return strings.Repeat("<a>", n) + strings.Repeat("</a>", n) }

// equal holds pieces against each other without Same.
func equal(a, b []api.Token) bool {
	if len(a) != len(b) {
		return false
	}
	for i := range a {
		if a[i].Kind != b[i].Kind || a[i].Name != b[i].Name || a[i].Text != b[i].Text || !slices.Equal(a[i].Attrs, b[i].Attrs) {
			return false
		}
	}
	return true
}

func cloned(l []api.Token) []api.Token {
	l = slices.Clone(l)
	for i := range l {
		l[i].Attrs = slices.Clone(l[i].Attrs)
	}
	return l
}

// model reads documents once more, by patterns.
var model = struct{ name, comment, section, declaration, instruction, close, open, attr *regexp.Regexp }{
	name:        regexp.MustCompile(`^[A-Za-z_][A-Za-z0-9_.:-]{0,59}$`),
	comment:     regexp.MustCompile(`(?s)^<!--.*?-->`),
	section:     regexp.MustCompile(`(?s)^<!\[CDATA\[(.*?)\]\]>`),
	declaration: regexp.MustCompile(`(?s)^<!.*?>`),
	instruction: regexp.MustCompile(`(?s)^<\?.*?\?>`),
	close:       regexp.MustCompile(`^</([A-Za-z_][A-Za-z0-9_.:-]{0,59})[\t\n\r ]*>`),
	open:        regexp.MustCompile(`^<([A-Za-z_][A-Za-z0-9_.:-]{0,59})((?:[\t\n\r ]+[A-Za-z_][A-Za-z0-9_.:-]{0,59}=(?:"[^"<]*"|'[^'<]*'))*)[\t\n\r ]*(/?)>`),
	attr:        regexp.MustCompile(`^[\t\n\r ]+([A-Za-z_][A-Za-z0-9_.:-]{0,59})=(?:"([^"<]*)"|'([^'<]*)')`),
}

type modelState struct {
	pieces []api.Token
	stack  []string
	roots  int
}

// modelTokens is what P8.2 says, read off once more.
func modelTokens(s string) ([]api.Token, api.Errno) {
	if len(s) > 100000 {
		return nil, api.ErrOver
	}
	m := &modelState{}
	for s != "" {
		n, e := m.step(s)
		if e != api.OK {
			return nil, e
		}
		s = s[n:]
	}
	if len(m.stack) > 0 || m.roots == 0 {
		return nil, api.ErrForm
	}
	return m.pieces, api.OK
}

// step is how many bytes the next piece has.
func (m *modelState) step(s string) (int, api.Errno) {
	switch {
	case s[0] != '<':
		return m.text(s)
	case strings.HasPrefix(s, "<!--"):
		return m.nothing(model.comment, s)
	case strings.HasPrefix(s, "<![CDATA["):
		found := model.section.FindStringSubmatch(s)
		if found == nil || len(m.stack) == 0 {
			return 0, api.ErrForm
		}
		if found[1] != "" {
			m.pieces = append(m.pieces, text(found[1]))
		}
		return len(found[0]), api.OK
	case strings.HasPrefix(s, "<!"):
		return m.nothing(model.declaration, s)
	case strings.HasPrefix(s, "<?"):
		return m.nothing(model.instruction, s)
	}
	if found := model.close.FindStringSubmatch(s); found != nil {
		return len(found[0]), m.end(found[1])
	}
	return m.open(s)
}

func (m *modelState) nothing(pattern *regexp.Regexp, s string) (int, api.Errno) {
	found := pattern.FindString(s)
	if found == "" {
		return 0, api.ErrForm
	}
	return len(found), api.OK
}

func (m *modelState) text(s string) (int, api.Errno) {
	n := strings.Index(s+"<", "<")
	if len(m.stack) == 0 {
		if strings.Trim(s[:n], "\t\n\r ") != "" {
			return 0, api.ErrForm
		}
		return n, api.OK
	}
	plain, e := ent.Decode(s[:n])
	m.pieces = append(m.pieces, text(plain))
	return n, e
}

func (m *modelState) end(name string) api.Errno {
	if len(m.stack) == 0 || m.stack[len(m.stack)-1] != name {
		return api.ErrForm
	}
	m.stack = m.stack[:len(m.stack)-1]
	m.pieces = append(m.pieces, end(name))
	return api.OK
}

func (m *modelState) open(s string) (int, api.Errno) {
	found := model.open.FindStringSubmatch(s)
	if found == nil {
		return 0, api.ErrForm
	}
	var attrs []api.Attr
	for left := found[2]; left != ""; {
		a := model.attr.FindStringSubmatch(left)
		left = left[len(a[0]):]
		plain, e := ent.Decode(a[2] + a[3])
		if e != api.OK || slices.ContainsFunc(attrs, func(x api.Attr) bool { return x.Name == a[1] }) {
			return 0, api.ErrForm
		}
		attrs = append(attrs, attr(a[1], plain))
	}
	if len(m.stack) == 0 {
		m.roots++
	}
	if m.roots > 1 {
		return 0, api.ErrForm
	}
	if len(m.stack) == 20 {
		return 0, api.ErrDeep
	}
	m.stack = append(m.stack, found[1])
	m.pieces = append(m.pieces, open(found[1], attrs...))
	if found[3] != "" {
		return len(found[0]), m.end(found[1])
	}
	return len(found[0]), api.OK
}

// hold holds Tokens against the model, and what is read against what is written of it.
func hold(t *testing.T, s string) {
	t.Helper()
	l, e := Tokens([]byte(s))
	want, e2 := modelTokens(s)
	if e != e2 || !equal(l, want) {
		t.Fatalf("Tokens(%.300q) = %v, %d, want %v, %d", s, l, e, want, e2)
	}
	if e == api.OK {
		nestedWell(t, l)
	}
}

// nestedWell is P8.4: opens and closes are of one another.
func nestedWell(t *testing.T, l []api.Token) {
	t.Helper()
	var stack []string
	for i, p := range l {
		switch p.Kind {
		case api.Open:
			stack = append(stack, p.Name)
		case api.Close:
			if len(stack) == 0 || stack[len(stack)-1] != p.Name {
				t.Fatalf("%v: close %d is of no open", l, i)
			}
			stack = stack[:len(stack)-1]
		case api.Text:
			if len(stack) == 0 || p.Text == "" {
				t.Fatalf("%v: text %d", l, i)
			}
		default:
			t.Fatalf("%v: kind of %d", l, i)
		}
		if len(stack) > 20 || len(stack) == 0 && i < len(l)-1 {
			t.Fatalf("%v: %d open behind %d", l, len(stack), i)
		}
	}
	if len(l) == 0 || len(stack) > 0 {
		t.Fatalf("%v: %d open in the end", l, len(stack))
	}
}

// each goes through all texts of at most so many pieces.
func each(pieces []string, most int, try func(s string)) {
	try("")
	if most == 0 {
		return
	}
	for _, p := range pieces {
		each(pieces, most-1, func(s string) { try(p + s) })
	}
}

// P8.1

func TestName(t *testing.T) {
	const first = "ABCDEFGHIJKLMNOPQRSTUVWXYZabcdefghijklmnopqrstuvwxyz_"
	const later = first + "0123456789-.:"
	for b := range 256 {
		s := string([]byte{byte(b)})
		if got, want := Name(s), strings.Contains(first, s); got != want {
			t.Errorf("Name(%q) = %v", s, got)
		}
		if got, want := Name(s+"a"), strings.Contains(first, s); got != want {
			t.Errorf("Name(%q) = %v", s+"a", got)
		}
		for _, ahead := range []string{"a", "Z", "_", "a-1.:", strings.Repeat("x", 58)} {
			for _, behind := range []string{"", "a", "9"} {
				name := ahead + s + behind
				if got, want := Name(name), strings.Contains(later, s); got != want {
					t.Errorf("Name(%q) = %v", name, got)
				}
			}
		}
	}
	for n := range 200 {
		if got, want := Name(strings.Repeat("a", n)), n >= 1 && n <= 60; got != want {
			t.Errorf("Name of %d bytes = %v", n, got)
		}
	}
	for s, want := range map[string]bool{
		"a:b-1._": true, "_": true, "x:a": true, "a:": true, "a::": true, "_1": true, "a-": true, "a.": true, "rss": true, "Z9": true,
		"": false, " ": false, "-a": false, ":a": false, ".a": false, "1a": false, "é": false, "aé": false, "a b": false, "a ": false, " a": false, "a/": false, "a>": false, "a=": false, "a\n": false, "a\x00": false, "\xff": false, "a\xff": false, "ａ": false, "\u017f": false, "a\u0301": false, "a\u00b7": false,
		strings.Repeat("é", 30): false, strings.Repeat("a", 1<<20): false, strings.Repeat("a", 59) + "é": false,
	} {
		if got := Name(s); got != want {
			t.Errorf("Name(%.80q) = %v", s, got)
		}
	}
}

func TestLocal(t *testing.T) {
	for s, want := range map[string]string{
		"a:b:c": "c", "a": "a", "a:b": "b", "": "", ":": "", "::": "", "a:": "", ":a": "a", "a::b": "b", "a:b:": "",
		"a b": "a b", "é:ü": "ü", "\xff:\xfe": "\xfe", "a：b": "a：b", "a;b": "a;b", "http://x/y": "//x/y", "\x00:\x00": "\x00",
		strings.Repeat("a", 100) + ":" + strings.Repeat("b", 100): strings.Repeat("b", 100),
	} {
		if got := Local(s); got != want {
			t.Errorf("Local(%q) = %q, want %q", s, got, want)
		}
	}
}

func TestSame(t *testing.T) {
	// Also what no document has is the same as itself, and as nothing else.
	lists := [][]api.Token{
		{},
		{{}},
		{{}, {}},
		{open("a")},
		{open("b")},
		{open("A")},
		{end("a")},
		{{Kind: api.Text, Name: "a"}},
		{{Kind: 3, Name: "a"}},
		{{Kind: -1}},
		{{Kind: math.MinInt}},
		{{Kind: math.MaxInt}},
		{text("")},
		{text("a")},
		{text("a ")},
		{text("ab")},
		{text("a"), text("b")},
		{text("b"), text("a")},
		{{Kind: api.Open, Text: "a"}},
		{{Kind: api.Close, Text: "a"}},
		{open("a", attr("", ""))},
		{open("a", attr("b", ""))},
		{open("a", attr("", "b"))},
		{open("a", attr("b", "1"))},
		{open("a", attr("b", "2"))},
		{open("a", attr("c", "1"))},
		{open("a", attr("b", "1"), attr("b", "1"))},
		{open("a", attr("b", "1"), attr("c", "1"))},
		{open("a", attr("c", "1"), attr("b", "1"))},
		{open("a", attr("b", "1"), attr("c", "2"))},
		{{Kind: api.Close, Name: "a", Attrs: []api.Attr{attr("b", "1")}}},
		{{Kind: api.Text, Text: "a", Attrs: []api.Attr{attr("b", "1")}}},
		{open("a"), end("a")},
		{end("a"), open("a")},
		{open("a"), text("x"), end("a")},
		{open("a"), text("y"), end("a")},
		{open("a"), text("x"), end("b")},
		{open("a"), text("x")},
		{open("a"), text("x"), end("a"), end("a")},
	}
	for i, a := range lists {
		for j, b := range lists {
			if got := Same(a, cloned(b)); got != (i == j) {
				t.Errorf("Same(%v, %v) = %v", a, b, got)
			}
		}
	}
	if !Same(nil, nil) || !Same(nil, []api.Token{}) || !Same([]api.Token{}, nil) || Same(nil, []api.Token{{}}) || Same([]api.Token{{}}, nil) {
		t.Error("a list without elements may be nil or empty")
	}
	bare, none := []api.Token{{Name: "a"}}, []api.Token{{Name: "a", Attrs: []api.Attr{}}}
	if !Same(bare, none) || !Same(none, bare) {
		t.Error("a list of attributes without elements may be nil or empty")
	}
}

// P8.2

func TestTokens(t *testing.T) {
	long := strings.Repeat("n", 60)
	for s, want := range map[string][]api.Token{
		`<a b="1">x&amp;<c/></a>`:            {open("a", attr("b", "1")), text("x&"), open("c"), end("c"), end("a")},
		"<a/>":                               {open("a"), end("a")},
		"<a></a>":                            {open("a"), end("a")},
		"<a />":                              {open("a"), end("a")},
		"<a\t\n\r ></a\t\n\r >":              {open("a"), end("a")},
		" \t\r\n<a/>\n \t\r":                 {open("a"), end("a")},
		"<_a-1.:b/>":                         {open("_a-1.:b"), end("_a-1.:b")},
		"<a:/>":                              {open("a:"), end("a:")},
		"<" + long + "></" + long + ">":      {open(long), end(long)},
		"<a " + long + "='1'/>":              {open("a", attr(long, "1")), end("a")},
		"<A><a></a></A>":                     {open("A"), open("a"), end("a"), end("A")},
		"<a><a/><a><a/></a></a>":             {open("a"), open("a"), end("a"), open("a"), open("a"), end("a"), end("a"), end("a")},
		"<x:a><y:a/></x:a>":                  {open("x:a"), open("y:a"), end("y:a"), end("x:a")},
		"<a> </a>":                           {open("a"), text(" "), end("a")},
		"<a>\r\n<b/>\t</a>":                  {open("a"), text("\r\n"), open("b"), end("b"), text("\t"), end("a")},
		"<a> x  y </a>":                      {open("a"), text(" x  y "), end("a")},
		"<a>&lt;b&gt;&#65;&#x42;&quot;</a>":  {open("a"), text("<b>AB\""), end("a")},
		"<a>&amp;lt;</a>":                    {open("a"), text("&lt;"), end("a")},
		"<a>&#32;</a>":                       {open("a"), text(" "), end("a")},
		"<a>]]></a>":                         {open("a"), text("]]>"), end("a")},
		"<a>></a>":                           {open("a"), text(">"), end("a")},
		"<a>\"'=/-->?></a>":                  {open("a"), text("\"'=/-->?>"), end("a")},
		"<a>é\xff\x00\u2028</a>":             {open("a"), text("é\xff\x00\u2028"), end("a")},
		"<a b='1' c=\"2\"\n\td='3'/>":        {open("a", attr("b", "1"), attr("c", "2"), attr("d", "3")), end("a")},
		"<a c='2' b='1'></a>":                {open("a", attr("c", "2"), attr("b", "1")), end("a")},
		"<a b=''/>":                          {open("a", attr("b", "")), end("a")},
		"<a b=\"\"></a>":                     {open("a", attr("b", "")), end("a")},
		"<a b='\"' c=\"'\"/>":                {open("a", attr("b", "\""), attr("c", "'")), end("a")},
		"<a b='>' c='/>'/>":                  {open("a", attr("b", ">"), attr("c", "/>")), end("a")},
		"<a b=' x\n y '/>":                   {open("a", attr("b", " x\n y ")), end("a")},
		"<a b='&lt;&amp;&apos;&#10;'/>":      {open("a", attr("b", "<&'\n")), end("a")},
		"<a b='\xffé'/>":                     {open("a", attr("b", "\xffé")), end("a")},
		"<a b='1' B='2' x:b='3' y:b='4'/>":   {open("a", attr("b", "1"), attr("B", "2"), attr("x:b", "3"), attr("y:b", "4")), end("a")},
		"<a a='1'><b a='1'/></a>":            {open("a", attr("a", "1")), open("b", attr("a", "1")), end("b"), end("a")},
		"<a _='1' xmlns:x='http://x/?y=z'/>": {open("a", attr("_", "1"), attr("xmlns:x", "http://x/?y=z")), end("a")},
	} {
		if l, e := Tokens([]byte(s)); e != api.OK || !equal(l, want) {
			t.Errorf("Tokens(%q) = %v, %d, want %v", s, l, e, want)
		}
		hold(t, s)
	}
}

func TestTokensOfWhatIsNothing(t *testing.T) {
	for s, want := range map[string][]api.Token{
		"<?xml version='1.0'?><a/>":           {open("a"), end("a")},
		"<a/><!-- x --><?y?><!Z>":             {open("a"), end("a")},
		"<??><a/>":                            {open("a"), end("a")},
		"<???><a/>":                           {open("a"), end("a")},
		"<?>?><a/>":                           {open("a"), end("a")},
		"<?<b>?><a/>":                         {open("a"), end("a")},
		"<!----><a/>":                         {open("a"), end("a")},
		"<!-----><a/>":                        {open("a"), end("a")},
		"<!--->--><a/>":                       {open("a"), end("a")},
		"<!-->--><a/>":                        {open("a"), end("a")},
		"<!-- -- -> <b> & --><a/>":            {open("a"), end("a")},
		"<!--<!-- --><a/>":                    {open("a"), end("a")},
		"<!><a/>":                             {open("a"), end("a")},
		"<!-><a/>":                            {open("a"), end("a")},
		"<!->--><a/>":                         nil, // the declaration ends at its first >
		"<!DOCTYPE a SYSTEM \"x\"><a/>":       {open("a"), end("a")},
		"<!DOCTYPE <b><a/>":                   {open("a"), end("a")},
		"<!DOCTYPE a [<!ENTITY b 'c'>]><a/>":  nil, // likewise
		"<![CDATA><a/>":                       {open("a"), end("a")},
		"<![cdata[x]]><a/>":                   {open("a"), end("a")},
		"<! [CDATA[x]]><a/>":                  {open("a"), end("a")},
		"<a>x<!-- y -->z</a>":                 {open("a"), text("x"), text("z"), end("a")},
		"<a>x<?y?>z<!w>v</a>":                 {open("a"), text("x"), text("z"), text("v"), end("a")},
		"<a><!-- --></a>":                     {open("a"), end("a")},
		"<a>&a<!-- -->mp;</a>":                nil,
		"<a><![CDATA[<&>]]><![CDATA[]]>y</a>": {open("a"), text("<&>"), text("y"), end("a")},
		"<a><![CDATA[ ]]></a>":                {open("a"), text(" "), end("a")},
		"<a>x<![CDATA[y]]>z</a>":              {open("a"), text("x"), text("y"), text("z"), end("a")},
		"<a><![CDATA[y]]><![CDATA[z]]></a>":   {open("a"), text("y"), text("z"), end("a")},
		"<a><![CDATA[&amp;&x;]]></a>":         {open("a"), text("&amp;&x;"), end("a")},
		"<a><![CDATA[</a>]]></a>":             {open("a"), text("</a>"), end("a")},
		"<a><![CDATA[]]]></a>":                {open("a"), text("]"), end("a")},
		"<a><![CDATA[]]]]></a>":               {open("a"), text("]]"), end("a")},
		"<a><![CDATA[]>]]></a>":               {open("a"), text("]>"), end("a")},
		"<a><![CDATA[>]]></a>":                {open("a"), text(">"), end("a")},
		"<a><![CDATA[<![CDATA[]]></a>":        {open("a"), text("<![CDATA["), end("a")},
		"<a><![CDATA[é\xff\x00]]></a>":        {open("a"), text("é\xff\x00"), end("a")},
		"<a><![CDATA[x]]>]]></a>":             {open("a"), text("x"), text("]]>"), end("a")},
		"<a><![CDATA]]></a>":                  {open("a"), end("a")},
		"<?xml?>\n<!DOCTYPE a><!-- <b> --><a  q='\"'\n></a >": {open("a", attr("q", "\"")), end("a")},
	} {
		e := api.OK
		if want == nil {
			e = api.ErrForm
		}
		if l, e2 := Tokens([]byte(s)); e2 != e || !equal(l, want) {
			t.Errorf("Tokens(%q) = %v, %d, want %v, %d", s, l, e2, want, e)
		}
		hold(t, s)
	}
}

func TestTokensOfAnotherForm(t *testing.T) {
	long := strings.Repeat("n", 61)
	for _, s := range []string{
		// no element
		"", " ", "\t\n\r ", "<?x?>", "<!x>", "<!-- x -->", "<!-- <a/> -->", "<? <a/> ?>",
		// an element that is open in the end, or of another name
		"<a>", "<a><b></b>", "<a></b>", "<a></A>", "<a><b></a></b>", "<a></a></a>", "<a/></a>", "</a>", "</a><a>", "<x:a></a>", "<a></x:a>", "<x:a></y:a>", "<a></a:>", "<a><b>", "<a></aa>", "<aa></a>",
		// two elements
		"<a/><b/>", "<a/><a/>", "<a></a><a></a>", "<a/> <b/>", "<a/><!-- --><b/>", "<a/><b>", "<a/><b></b>",
		// bytes outside of an element
		"x", "x<a/>", "<a/>x", " x <a/>", "<a/> x", "\x00<a/>", "\v<a/>", "\f<a/>", "\u00a0<a/>", "\u0085<a/>", "\u2003<a/>", "\ufeff<a/>", "\xa0<a/>", "<a/>\x00", "&#32;<a/>", "<a/>&#10;", ">", "<a/>>", "&amp;<a/>", "<!-->--><a/>x", "]]><a/>",
		// sections outside of an element
		"<![CDATA[ ]]><a/>", "<![CDATA[]]><a/>", "<a/><![CDATA[ ]]>", "<a/><![CDATA[]]>", "<![CDATA[<a/>]]>", "<![CDATA[",
		// an end that lacks
		"<", "<a", "<a ", "<a/", "<a b", "<a b=", "<a b='", "<a b='1", "<a b='1'", "<a b='1' ", "<a b='1'/", "<a b=\"1'/>", "<a>x", "<a><", "<a></", "<a></a", "<a></a ", "<a/><", "<a/></",
		"<!-- <a/>", "<!-- --", "<!--", "<!---", "<!-->", "<!-->\n<a/>", "<!--->", "<!---><a/>", "<!-- -- ><a/>", "<?", "<?>", "<?><a/>", "<? <a/>", "<?x><a/>", "<!", "<!x", "<!DOCTYPE a", "<!-", "<!- <a/", "<![CDATA", "<a/><!--", "<a/><?", "<a/><!",
		"<a><![CDATA[", "<a><![CDATA[x", "<a><![CDATA[x]", "<a><![CDATA[x]]", "<a><![CDATA[</a>", "<a><![CDATA[]></a>", "<a><![CDATA[x]] ></a>", "<a>]]><![CDATA[</a>",
		// no name
		"<>", "</>", "< a/>", "<1/>", "<-a/>", "<:a/>", "<.a/>", "<é/>", "<a></ a>", "<a>< /a>", "<a><//a>", "<a></1>", "<\x00/>", "<<a/>", "<a><</a>", "<&amp;/>", "<aé/>", "<" + long + "/>", "<" + long + "></" + long + ">", "<a " + long + "='1'/>", "<a></" + long + ">",
		// signs that are in the wrong place
		"<a/ >", "<a / >", "<a//>", "<a/b>", "<a /b='1'/>", "<a/ b='1'/>", "<a></a/>", "<a></a b='1'>", "<a></a\x00>", "<a,/>", "<a\x00/>", "<a\v/>", "<a\u00a0/>", "<a<b/>", "<a <b/>", "<a></a<", "<a?/>", "<a!/>",
		// attributes
		"<a b/>", "<a b=/>", "<a b=1/>", "<a b=1></a>", "<a b ='1'/>", "<a b= '1'/>", "<a b = '1'/>", "<a ='1'/>", "<a '1'/>", "<a b=='1'/>", "<a b:'1'/>", "<a 1='1'/>", "<a -='1'/>", "<a :b='1'/>", "<a é='1'/>", "<a bé='1'/>", "<a b='1'c='2'/>", "<ab='1'/>", "<a b='1''2'/>", "<a b='1' '2'/>", "<a b='1''/>", "<a b='1' \"/>", "<a b=`1`/>", "<a b=\"1'/>", "<a b='1\"/>", "<a b='<'/>", "<a b=\"<\"/>", "<a b='x<y>'/>", "<a b='<!-- -->'/>", "<a b='1',c='2'/>", "<a\u00a0b='1'/>", "<a\vb='1'/>", "<a b='1'\u00a0/>", "<a b='1' c/>", "<a b='1' c=/>", "<a b='1' / c='2'>",
		// two of one name
		"<a b='1' b='2'/>", "<a b='1' b='1'/>", "<a b='1' c='2' b='3'></a>", "<a b='1' c='2' d='3' c=\"4\"/>", "<r><a x:b='1' x:b='2'/></r>",
		// entities that are none
		"<a>&x;</a>", "<a>&</a>", "<a>&amp</a>", "<a>&;</a>", "<a>& </a>", "<a>&nbsp;</a>", "<a>&#0;</a>", "<a>&#xD800;</a>", "<a>&am<b/>p;</a>", "<a b='&x;'/>", "<a b='&'/>", "<a b='&amp'/>", "<a b='&amp' c=';'/>", "<a b='&#0;'/>", "<a>ok &amp; &no; </a>",
	} {
		if l, e := Tokens([]byte(s)); e != api.ErrForm || len(l) != 0 {
			t.Errorf("Tokens(%.80q) = %v, %d, want ErrForm", s, l, e)
		}
		hold(t, s)
	}
	if l, e := Tokens(nil); e != api.ErrForm || len(l) != 0 {
		t.Errorf("Tokens(nil) = %v, %d, want ErrForm", l, e)
	}
}

func TestTokensOfDeepDocuments(t *testing.T) {
	at20 := strings.Repeat("<a>", 20)
	for s, want := range map[string]api.Errno{
		nested(20): api.OK,
		strings.Repeat("<a>", 19) + "<b/>" + strings.Repeat("</a>", 19):                            api.OK,
		at20 + "x<!-- --><![CDATA[y]]>" + strings.Repeat("</a>", 20):                               api.OK,
		"<a>" + strings.Repeat(strings.Repeat("<b>", 19)+strings.Repeat("</b>", 19), 100) + "</a>": api.OK,
		nested(21):                   api.ErrDeep,
		at20 + "<a>":                 api.ErrDeep,
		at20 + "<a/>":                api.ErrDeep,
		at20 + "<b c='1'/>":          api.ErrDeep,
		at20 + "</a><b/>":            api.ErrForm,
		at20 + "</a><b><c/>":         api.ErrDeep,
		strings.Repeat("<a>", 33333): api.ErrDeep,
		// the first error met is told
		at20 + "<a>&x;":       api.ErrDeep,
		at20 + "<a></b>":      api.ErrDeep,
		at20 + "<a><":         api.ErrDeep,
		"x" + at20 + "<a>":    api.ErrForm,
		at20 + "&x;<a>":       api.ErrForm,
		at20 + "</b><a>":      api.ErrForm,
		"<a/>" + at20 + "<a>": api.ErrForm,
		// an element that is out of form is none that is open
		at20 + "<a":               api.ErrForm,
		at20 + "<a b>":            api.ErrForm,
		at20 + "<a b='<'>":        api.ErrForm,
		at20 + "<a b='&x;'>":      api.ErrForm,
		at20 + "<a b='1' b='2'>":  api.ErrForm,
		at20 + "<a b='1' b='2'/>": api.ErrForm,
		at20 + "<a b='1'/ >":      api.ErrForm,
		at20 + "<1>":              api.ErrForm,
		at20 + "<":                api.ErrForm,
	} {
		l, e := Tokens([]byte(s))
		if e != want || e != api.OK && len(l) != 0 {
			t.Errorf("Tokens(%.200q) = %v, %d, want %d", s, l, e, want)
		}
		hold(t, s)
	}
}

func TestTokensOfLongDocuments(t *testing.T) {
	fill := func(ahead, with, behind string, n int) string {
		left := n - len(ahead) - len(behind)
		return ahead + strings.Repeat(with, left/len(with)) + strings.Repeat(" ", left%len(with)) + behind
	}
	for _, x := range [][3]string{
		{"", " ", "<a/>"}, {"<a/>", "\n", ""}, {"<a>", "x", "</a>"}, {"<a>", "&amp;", "</a>"}, {"<a>", "<b/>", "</a>"}, {"<a>", "<b></b>", "</a>"}, {"<a b='", "x", "'/>"}, {"<!--", "-", "--><a/>"}, {"<!--", "--", " --><a/>"}, {"<a><![CDATA[", "]", "]]></a>"}, {"<a>", "<!---->", "</a>"}, {"<a>", "<![CDATA[x]]>", "</a>"}, {"<?", "?", "?><a/>"}, {"<a", " ", "/>"}, {"<a></a", " ", ">"},
	} {
		if l, e := Tokens([]byte(fill(x[0], x[1], x[2], 100000))); e != api.OK || len(l) == 0 {
			t.Errorf("%q: 100000 bytes: %d", x, e)
		}
		for _, n := range []int{100001, 100002, 200000} {
			if l, e := Tokens([]byte(fill(x[0], x[1], x[2], n))); e != api.ErrOver || len(l) != 0 {
				t.Errorf("%q: %d bytes: %d", x, n, e)
			}
		}
	}
	// too long is told ahead of all else
	for _, s := range []string{" ", "x", "<", "<a>", "<a/>", "&", "<!--", "\xff", "\x00"} {
		long := strings.Repeat(s, 100001/len(s)+1)
		if l, e := Tokens([]byte(long)); e != api.ErrOver || len(l) != 0 {
			t.Errorf("%q, again and again: %d", s, e)
		}
		if _, e := Tokens([]byte(long[:100000])); e != api.ErrForm && e != api.ErrDeep {
			t.Errorf("%q, again and again, 100000 bytes: %d", s, e)
		}
	}
}

// Documents that make a reader go over the same bytes again and again take no longer than others.
func TestTokensOfDocumentsMadeToTakeLong(t *testing.T) {
	var attrs strings.Builder
	for i := 0; attrs.Len() < 99000; i++ {
		attrs.WriteString(" a" + strconv.Itoa(i) + "=''")
	}
	start := time.Now()
	for _, s := range []string{
		"<a" + attrs.String() + "/>",
		"<a" + attrs.String() + " a0=''/>",
		"<a>" + strings.Repeat("<b c=''/>", 11000) + "</a>",
		"<a>" + strings.Repeat("<!-- ", 19000),
		"<a>" + strings.Repeat("<![CDATA[", 11000),
		"<a>" + strings.Repeat("<? ", 33000),
		strings.Repeat("<!", 50000),
		"<a b='" + strings.Repeat("&", 99000) + "'/>",
		"<a>" + strings.Repeat("&#", 49000) + "</a>",
		"<a " + strings.Repeat("b", 99000),
		"<" + strings.Repeat("a", 99999),
		"<a" + strings.Repeat(" ", 99998),
		strings.Repeat("<a ", 33333),
		strings.Repeat("\"'", 50000),
	} {
		Tokens([]byte(s))
	}
	if d := time.Since(start); d > 5*time.Second {
		t.Errorf("%v", d)
	}
}

func TestTokensOfAllShortDocuments(t *testing.T) {
	signs := strings.Split("<>/!?-[]a '\"=&;", "")
	each(signs, 4, func(s string) { hold(t, s) })
	tags := []string{" ", "b", "=", "'", "\"", "/", ">", "<", "&", "\n", "1"}
	each(tags, 4, func(s string) {
		hold(t, "<a"+s+">")
		hold(t, "<a b='1'"+s+"/>")
		hold(t, "<a></a"+s+">")
		hold(t, "<a "+s)
	})
	each([]string{" ", "b='1'", "c=\"2\"", "b=''", "d='&x;'", "/", ">", "</a>"}, 5, func(s string) { hold(t, "<a"+s) })
	each([]string{"-", ">", "!", " ", "<!--", "-->"}, 5, func(s string) {
		hold(t, "<!"+s+"<a/>")
		hold(t, "<a><!"+s+"</a>")
	})
	each([]string{"[", "]", ">", "x", "<![CDATA[", "]]>"}, 5, func(s string) { hold(t, "<a><![CDATA["+s+"</a>") })
	each([]string{"?", ">", " ", "<"}, 5, func(s string) { hold(t, "<?"+s+"<a/>") })
	pieces := []string{"<a>", "</a>", "<b>", "</b>", "<a/>", " ", "x", "&amp;", "<!-- -->", "<![CDATA[x]]>", "<![CDATA[]]>", "<?x?>", "<!x>"}
	each(pieces, 5, func(s string) { hold(t, s) })
	each(pieces, 3, func(s string) { hold(t, strings.Repeat("<a>", 18)+s+strings.Repeat("</a>", 18)) })
}

// someText is a text by chance that a document may hold.
func someText(source *rand.Rand) string {
	pieces := []string{"x", " ", "\n", "\t", "\r", "é", "\xff", "\x00", "\u2028", ">", "]]>", "-->", "?>", "/>", "\"", "'", "=", "a", "1", "😀"}
	var s string
	for range 1 + source.Intn(4) {
		s += pieces[source.Intn(len(pieces))]
	}
	return s
}

// coded is a text by chance with entities in it.
func coded(source *rand.Rand) string {
	return someText(source) + []string{"", "&amp;", "&lt;", "&#65;", "&#x20;", "&quot;"}[source.Intn(6)]
}

func someName(source *rand.Rand) string {
	return []string{"a", "b", "c", "x:a", "x:b", "_", "A", "a-1.", "rss"}[source.Intn(9)]
}

func someBlanks(source *rand.Rand, least int) string {
	var s string
	for range least + source.Intn(3) {
		s += string("\t\n\r "[source.Intn(4)])
	}
	return s
}

// someElement is an element by chance, of at most so many within one another.
func someElement(source *rand.Rand, deep int) string {
	name := someName(source)
	s := "<" + name
	for i := range source.Intn(4) {
		quote := []string{"'", "\""}[source.Intn(2)]
		s += someBlanks(source, 1) + someName(source) + []string{"", strconv.Itoa(i)}[source.Intn(2)] + "=" + quote + strings.ReplaceAll(coded(source), quote, "") + quote
	}
	s += someBlanks(source, 0)
	if source.Intn(3) == 0 {
		return s + "/>"
	}
	s += ">"
	for range source.Intn(5) {
		s += someInside(source, deep)
	}
	return s + "</" + name + someBlanks(source, 0) + ">"
}

func someInside(source *rand.Rand, deep int) string {
	switch n := source.Intn(8); {
	case n < 3 && deep > 1:
		return someElement(source, deep-1)
	case n < 5:
		return coded(source)
	case n == 5:
		return "<![CDATA[" + strings.ReplaceAll(someText(source), "]]>", "&<") + "]]>"
	}
	return someNothing(source)
}

func someNothing(source *rand.Rand) string {
	return []string{"<!-- <x> & -->", "<?x y?>", "<!X y>", "<!---->", "<!>", " ", "\n"}[source.Intn(7)]
}

func someDocument(source *rand.Rand) string {
	s := someElement(source, 1+source.Intn(6))
	if source.Intn(10) == 0 {
		n := 14 + source.Intn(8)
		s = strings.Repeat("<d>", n) + s + strings.Repeat("</d>", n)
	}
	for range source.Intn(3) {
		s = someNothing(source) + s + someNothing(source)
	}
	return s
}

// spoilt is a document with some bytes less, more or changed.
func spoilt(source *rand.Rand, s string) string {
	pieces := []string{"<", ">", "/", "!", "?", "-", "[", "]", "&", ";", "=", "'", "\"", " ", "a", "1", ":", "\x00", "\xff", "é", "<a>", "</a>", "<b/>", "<!--", "-->", "<![CDATA[", "]]>", "&x;"}
	for range 1 + source.Intn(3) {
		from := source.Intn(len(s) + 1)
		upto := min(len(s), from+source.Intn(3))
		if source.Intn(3) == 0 {
			s = s[:from] + s[upto:]
			continue
		}
		s = s[:from] + pieces[source.Intn(len(pieces))] + s[upto:]
	}
	return s
}

func TestTokensOfDocumentsByChance(t *testing.T) {
	source := rand.New(rand.NewSource(82))
	fine := 0
	for range 30000 {
		s := someDocument(source)
		if _, e := Tokens([]byte(s)); e == api.OK {
			fine++
		}
		hold(t, s)
		hold(t, spoilt(source, s))
		hold(t, s[:source.Intn(len(s))])
	}
	if fine < 10000 {
		t.Errorf("only %d documents by chance are any", fine)
	}
	for range 30000 {
		b := make([]byte, source.Intn(30))
		for i := range b {
			b[i] = byte(source.Intn(256))
		}
		hold(t, string(b))
		hold(t, "<a>"+string(b)+"</a>")
		hold(t, "<a b='"+string(b)+"'/>")
	}
}

// P8.3

func TestWrite(t *testing.T) {
	for _, x := range []struct {
		l []api.Token
		s string
	}{
		{[]api.Token{open("a"), end("a")}, "<a></a>"},
		{[]api.Token{open("a", attr("b", "<\"")), text("c&"), end("a")}, "<a b=\"&lt;&quot;\">c&amp;</a>"},
		{[]api.Token{open("a", attr("b", "1")), text("x&"), open("c"), end("c"), end("a")}, "<a b=\"1\">x&amp;<c></c></a>"},
		{[]api.Token{open("a", attr("b", ""), attr("x:c", "'\n>")), end("a")}, "<a b=\"\" x:c=\"'\n&gt;\"></a>"},
		{[]api.Token{open("a"), text(" \"'<>&]]>&amp; "), end("a")}, "<a> &quot;'&lt;&gt;&amp;]]&gt;&amp;amp; </a>"},
		{[]api.Token{open("a"), text("\xffé\x00"), open("b"), text(" "), end("b"), text("\n"), end("a")}, "<a>\xffé\x00<b> </b>\n</a>"},
		{[]api.Token{{Name: "a", Attrs: []api.Attr{}}, {Kind: api.Close, Name: "a", Attrs: []api.Attr{}}}, "<a></a>"},
	} {
		if b, e := Write(x.l); e != api.OK || string(b) != x.s {
			t.Errorf("Write(%v) = %q, %d, want %q", x.l, b, e, x.s)
		}
	}
}

func TestWriteOfWhatNoDocumentHas(t *testing.T) {
	within := func(l ...api.Token) []api.Token { return append(append([]api.Token{open("a")}, l...), end("a")) }
	var deep []api.Token
	for range 21 {
		deep = append([]api.Token{open("a")}, append(deep, end("a"))...)
	}
	for i, l := range [][]api.Token{
		nil, {},
		{open("a")}, {end("a")}, {text("x")}, {text(" ")}, {end("a"), open("a")},
		{open("a"), end("b")}, {open("a"), end("a"), end("a")}, {open("a"), open("b"), end("a"), end("b")},
		{open("a"), end("a"), open("b"), end("b")},
		{text(" "), open("a"), end("a")}, {open("a"), end("a"), text(" ")}, {open("a"), end("a"), text("\n")}, {text(""), open("a"), end("a")}, {text("x"), open("a"), end("a")},
		within(text("b"), text("c")), within(text("")), within(text("b"), text("")), within(text(" "), text(" ")),
		{open(""), end("")}, {open("1"), end("1")}, {open("a b"), end("a b")}, {open("a "), end("a ")}, {open("a "), end("a")}, {open("a"), end("a ")}, {open("a/"), end("a/")}, {open("a/"), end("a")}, {open("a/")}, {open("é"), end("é")}, {open("!--"), end("--")}, {open("!"), open("a"), end("a")}, {open("?x?"), open("a"), end("a")}, {open("a b='1'"), end("a")}, {open("a><b"), end("b"), end("a")}, {open("a></a"), end("a")}, {open("a>x</a")}, {open("a>"), end("a")},
		{open(strings.Repeat("n", 61)), end(strings.Repeat("n", 61))},
		within(open("/a"), open("a")), within(open("b/")), within(open("b"), end("/b")), within(open("![CDATA[x]]")), within(open("!--x--")), within(open("?x?")),
		{open("a", attr("", "1")), end("a")}, {open("a", attr("1", "1")), end("a")}, {open("a", attr("b ", "1")), end("a")}, {open("a", attr("b=\"1\" c", "1")), end("a")}, {open("a", attr("é", "1")), end("a")}, {open("a", attr("b", "1"), attr("b", "2")), end("a")}, {open("a", attr("b", "1"), attr("c", "1"), attr("b", "1")), end("a")}, {open("a", attr(strings.Repeat("n", 61), "1")), end("a")}, {open("a", attr("/", "")), end("a")}, {open("a", api.Attr{}), end("a")},
		deep,
		// what a piece of that kind does not have
		{{Name: "a", Text: "x"}, end("a")}, {open("a"), {Kind: api.Close, Name: "a", Text: "x"}}, {open("a"), {Kind: api.Close, Name: "a", Attrs: []api.Attr{attr("b", "1")}}}, within(api.Token{Kind: api.Text, Name: "b", Text: "x"}), within(api.Token{Kind: api.Text, Text: "x", Attrs: []api.Attr{attr("b", "1")}}), within(api.Token{Kind: api.Text, Name: "b"}),
		// another kind
		{{Kind: 3}}, {{Kind: -1}}, {{Kind: math.MinInt}}, {{Kind: math.MaxInt}}, within(api.Token{Kind: 3}), within(api.Token{Kind: -1}), within(api.Token{Kind: 3, Text: "x"}), within(api.Token{Kind: 3, Name: "b"}, end("b")), {{Kind: 3, Name: "a"}, end("a")}, {open("a"), {Kind: 4, Name: "a"}}, {open("a"), end("a"), {Kind: 3}}, {{Kind: 5}, open("a"), end("a")},
		// too long
		within(text(strings.Repeat("x", 99994))), within(text(strings.Repeat("x", 1<<22))), within(text(strings.Repeat("\"", 20000))), {open("a", attr("b", strings.Repeat("x", 100000))), end("a")}, {open("a", slices.Repeat([]api.Attr{attr("b", strings.Repeat("x", 100000))}, 100)...), end("a")}, slices.Repeat([]api.Token{open("a", attr("b", "1")), end("a")}, 100000), slices.Repeat([]api.Token{{Kind: 7}}, 100000), slices.Repeat([]api.Token{{Kind: api.Text}}, 100000),
	} {
		if b, e := Write(l); e != api.ErrArg || len(b) != 0 {
			t.Errorf("%d: Write(%.300v) = %.300q, %d, want ErrArg", i, l, b, e)
		}
	}
	if b, e := Write(deep[1 : len(deep)-1]); e != api.OK || string(b) != nested(20) {
		t.Errorf("20 elements: %q, %d", b, e)
	}
	for _, s := range []string{strings.Repeat("x", 99993), strings.Repeat("&", 19998) + "xxx"} {
		l := within(text(s))
		if b, e := Write(l); e != api.OK || len(b) != 100000 {
			t.Errorf("100000 bytes: %d, %d", len(b), e)
		}
		if _, e := Write(append(l[:1:1], text(s+"x"), end("a"))); e != api.ErrArg {
			t.Errorf("100001 bytes: %d", e)
		}
	}
}

// mayBe tells whether there is a document whose pieces these are, without reading any.
func mayBe(l []api.Token) bool {
	var stack []string
	for i, p := range l {
		// Ahead of the first piece no element is open; behind it, up to the last one, one always is.
		if (len(stack) == 0) != (i == 0) {
			return false
		}
		switch {
		case p.Kind == api.Open && p.Text == "" && model.name.MatchString(p.Name) && len(stack) < 20:
			known := map[string]bool{}
			for _, a := range p.Attrs {
				if known[a.Name] || !model.name.MatchString(a.Name) {
					return false
				}
				known[a.Name] = true
			}
			stack = append(stack, p.Name)
		case p.Kind == api.Close && p.Text == "" && len(p.Attrs) == 0 && i > 0 && stack[len(stack)-1] == p.Name:
			stack = stack[:len(stack)-1]
		case p.Kind == api.Text && p.Text != "" && p.Name == "" && len(p.Attrs) == 0 && i > 0 && l[i-1].Kind != api.Text:
		default:
			return false
		}
	}
	return len(l) > 0 && len(stack) == 0
}

// spelt is what P8.3 says of the text, read off once more.
func spelt(l []api.Token) string {
	var s string
	for _, p := range l {
		switch p.Kind {
		case api.Open:
			s += "<" + p.Name
			for _, a := range p.Attrs {
				s += " " + a.Name + "=\"" + ent.Encode(a.Text) + "\""
			}
			s += ">"
		case api.Close:
			s += "</" + p.Name + ">"
		case api.Text:
			s += ent.Encode(p.Text)
		}
	}
	return s
}

// writtenWell holds Write against what is told above, and P8.4: what is written has these pieces.
func writtenWell(t *testing.T, l []api.Token) bool {
	t.Helper()
	before := cloned(l)
	b, e := Write(l)
	if !equal(before, l) {
		t.Fatalf("Write changed %v to %v", before, l)
	}
	if !mayBe(l) {
		if e != api.ErrArg || len(b) != 0 {
			t.Fatalf("Write(%v) = %q, %d, want ErrArg", l, b, e)
		}
		return false
	}
	if e != api.OK || string(b) != spelt(l) {
		t.Fatalf("Write(%v) = %q, %d, want %q", l, b, e, spelt(l))
	}
	nestedWell(t, l)
	if back, e := Tokens(b); e != api.OK || !equal(back, l) || !Same(back, l) {
		t.Fatalf("Tokens(%q) = %v, %d, want %v", b, back, e, l)
	}
	return true
}

func TestWriteOfAllShortLists(t *testing.T) {
	pieces := []api.Token{open("a"), open("b"), open("a", attr("b", "<")), end("a"), end("b"), text("x"), text("<&"), text(""), text(" "), open("a/"), {Kind: 3}}
	var grow func(l []api.Token, most int)
	grow = func(l []api.Token, most int) {
		writtenWell(t, l)
		if most == 0 {
			return
		}
		for _, p := range pieces {
			grow(append(l[:len(l):len(l)], p), most-1)
		}
	}
	grow(nil, 5)
}

// someList is a list by chance that may be that of a document.
func someList(source *rand.Rand, deep int) []api.Token {
	name := someName(source)
	var attrs []api.Attr
	for i := range source.Intn(3) {
		attrs = append(attrs, attr(someName(source)+strconv.Itoa(i), someText(source)+"<&amp;"))
	}
	l := []api.Token{open(name, attrs...)}
	for range source.Intn(4) {
		if last := l[len(l)-1]; last.Kind != api.Text && source.Intn(2) == 0 {
			l = append(l, text(someText(source)+[]string{"", "<", "&", "&lt;", "<!-- -->", "<![CDATA["}[source.Intn(6)]))
		} else if deep > 1 {
			l = append(l, someList(source, deep-1)...)
		}
	}
	return append(l, end(name))
}

func TestWriteOfListsByChance(t *testing.T) {
	source := rand.New(rand.NewSource(83))
	for range 20000 {
		l := someList(source, 1+source.Intn(6))
		if !writtenWell(t, l) {
			t.Fatalf("%v should be a document's", l)
		}
		for range 3 {
			writtenWell(t, spoiltList(source, cloned(l)))
		}
	}
}

// spoiltList is a list with a piece less, more or changed.
func spoiltList(source *rand.Rand, l []api.Token) []api.Token {
	i := source.Intn(len(l))
	switch source.Intn(8) {
	case 0:
		return slices.Delete(l, i, i+1)
	case 1:
		return slices.Insert(l, i, l[source.Intn(len(l))])
	case 2:
		l[i].Kind = source.Intn(6) - 1
	case 3:
		l[i].Name = []string{"", "a", "b", "a b", "é", "a/", "!", "?", "-", "a=\"\""}[source.Intn(10)]
	case 4:
		l[i].Text = []string{"", "a", " ", "<", "&"}[source.Intn(5)]
	case 5:
		l[i].Attrs = append(l[i].Attrs, attr([]string{"a", "a0", "b1", "", " ", "é", "a=\"1\" b"}[source.Intn(7)], "x"))
	case 6:
		j := source.Intn(len(l))
		l[i], l[j] = l[j], l[i]
	case 7:
		return append(l, someList(source, 2)...)
	}
	return l
}

// P8.4

// textsMeet tells whether a text stands right behind another one: sections and comments part what is written as one.
func textsMeet(l []api.Token) bool {
	for i := range l {
		if i > 0 && l[i].Kind == api.Text && l[i-1].Kind == api.Text {
			return true
		}
	}
	return false
}

// What is read is written again, and has the same pieces, but where texts meet.
func TestWhatIsReadIsWritten(t *testing.T) {
	source := rand.New(rand.NewSource(84))
	some := 0
	for range 30000 {
		l, e := Tokens([]byte(someDocument(source)))
		if e != api.OK {
			continue
		}
		some++
		nestedWell(t, l)
		if wrote := writtenWell(t, l); wrote == textsMeet(l) {
			t.Fatalf("%v is written: %v", l, wrote)
		}
	}
	if some < 10000 {
		t.Errorf("only %d documents", some)
	}
}

// R3, R5, R7

func TestAnswersAreTheCallersOwn(t *testing.T) {
	b := []byte("<a b='1' c='&amp;'>x&lt;<d e='2'/><f g='3'></f><![CDATA[y]]></a>")
	before := bytes.Clone(b)
	l, _ := Tokens(b)
	want := cloned(l)
	if !bytes.Equal(b, before) {
		t.Error("Tokens changed what it was given")
	}
	for i := range b {
		b[i] = '#'
	}
	if !equal(l, want) {
		t.Error("the pieces hang on the document's bytes")
	}
	for i := range l {
		for j := range l[i].Attrs {
			l[i].Attrs[j] = attr("#", "#")
		}
		// What is put behind a list must not fall into another one.
		_ = append(l[i].Attrs, attr("#", "#"))
	}
	again, _ := Tokens(before)
	if !equal(again, want) {
		t.Errorf("a second answer is %v, want %v", again, want)
	}
	for i := range again {
		rest := cloned(again)
		for j := range again[i].Attrs {
			again[i].Attrs[j].Text = "#"
		}
		rest[i] = again[i]
		if !equal(again, rest) {
			t.Errorf("the attributes of %d are those of another piece, too", i)
		}
	}
	list := []api.Token{open("a", attr("b", "1")), text("x"), end("a")}
	first, _ := Write(list)
	second, _ := Write(list)
	for i := range first {
		first[i] = '#'
	}
	if string(second) != `<a b="1">x</a>` || !equal(list, []api.Token{open("a", attr("b", "1")), text("x"), end("a")}) {
		t.Errorf("%q, %v", second, list)
	}
}

// An answer has noughts wherever its kind has no meaning for a field.
func TestPiecesHaveNothingBesideTheirKinds(t *testing.T) {
	l, e := Tokens([]byte("<a b='1'>x<c d='2'/><!-- --><![CDATA[y]]></a>"))
	if e != api.OK {
		t.Fatal(e)
	}
	for i, p := range l {
		if p.Kind != api.Open && len(p.Attrs) > 0 || p.Kind == api.Text && p.Name != "" || p.Kind != api.Text && p.Text != "" {
			t.Errorf("%d: %v", i, p)
		}
	}
}
