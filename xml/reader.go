package xml

import (
	"strings"

	"mailcoach/api"
	"mailcoach/ent"
)

// fault is what a reader panics with, so that no step of it has to ask the one ahead.
type fault struct{ e api.Errno }

// need ends the reading of a document that is out of form, or ends too soon.
func need(ok bool) {
	if !ok {
		panic(fault{api.ErrForm})
	}
}

// kind is how a piece begins, and what takes the rest of it.
type kind struct {
	beginning string
	take      func(*reader)
}

// kinds are in such an order that a piece is of the first one whose beginning it has.
func kinds() []kind {
	return []kind{
		{"<!--", (*reader).comment},
		{"<![CDATA[", (*reader).section},
		{"<!", (*reader).declaration},
		{"<?", (*reader).instruction},
		{"</", (*reader).close},
		{"<", (*reader).open},
		{"", (*reader).text},
	}
}

// reader takes a document from its beginning on.
type reader struct {
	left   string   // what has not been taken
	within []string // the names of the elements that are open
	begun  bool     // an element has been opened
	pieces []api.Token
}

// read takes a whole document.
func read(document string) (pieces []api.Token, e api.Errno) {
	defer func() {
		if f, ok := recover().(fault); ok {
			pieces, e = nil, f.e
		}
	}()
	r := &reader{left: document}
	all := kinds()
	for r.left != "" {
		r.piece(all)
	}
	need(r.begun && len(r.within) == 0)
	return r.pieces, api.OK
}

func (r *reader) piece(all []kind) {
	for _, k := range all {
		if r.skip(k.beginning) {
			k.take(r)
			return
		}
	}
}

func (r *reader) comment()     { r.upTo("-->") }
func (r *reader) declaration() { r.upTo(">") }
func (r *reader) instruction() { r.upTo("?>") }

func (r *reader) section() {
	need(len(r.within) > 0)
	r.addText(r.upTo("]]>"))
}

func (r *reader) text() {
	end := strings.IndexByte(r.left, '<')
	if end < 0 {
		end = len(r.left)
	}
	text := r.left[:end]
	r.left = r.left[end:]
	if len(r.within) == 0 {
		// Not its signs count here, but its bytes: an entity of a blank is none.
		need(ent.Trim(text) == "")
		return
	}
	r.addText(decoded(text))
}

func (r *reader) close() {
	name := r.name()
	r.blanks()
	need(r.skip(">"))
	r.leave(name)
}

func (r *reader) open() {
	name := r.name()
	attrs := r.attrs()
	ends := r.skip("/")
	need(r.skip(">"))
	r.enter(name, attrs)
	if ends {
		r.leave(name)
	}
}

// attrs takes an element's attributes, and the blanks behind them.
func (r *reader) attrs() []api.Attr {
	var attrs []api.Attr
	known := map[string]struct{}{}
	for r.blanks() && !r.tagEnds() {
		a := r.attr()
		_, twice := known[a.Name]
		need(!twice)
		known[a.Name] = struct{}{}
		attrs = append(attrs, a)
	}
	return attrs
}

// tagEnds is true also where only a sign of the end stands: what lacks there is told when the end is taken.
func (r *reader) tagEnds() bool {
	return strings.HasPrefix(r.left, "/") || strings.HasPrefix(r.left, ">")
}

func (r *reader) attr() api.Attr {
	name := r.name()
	need(r.skip("="))
	quote := `"`
	if !r.skip(quote) {
		quote = "'"
		need(r.skip(quote))
	}
	text := r.upTo(quote)
	need(!strings.Contains(text, "<"))
	return api.Attr{Name: name, Text: decoded(text)}
}

// enter tells of depth last of all: an element that is out of form is not opened.
func (r *reader) enter(name string, attrs []api.Attr) {
	need(!r.begun || len(r.within) > 0)
	r.begun = true
	r.within = append(r.within, name)
	if len(r.within) > api.MaxDeep {
		panic(fault{api.ErrDeep})
	}
	r.add(api.Token{Kind: api.Open, Name: name, Attrs: attrs})
}

func (r *reader) leave(name string) {
	last := len(r.within) - 1
	need(last >= 0 && r.within[last] == name)
	r.within = r.within[:last]
	r.add(api.Token{Kind: api.Close, Name: name})
}

func (r *reader) addText(text string) {
	if text != "" {
		r.add(api.Token{Kind: api.Text, Text: text})
	}
}

func (r *reader) add(t api.Token) {
	r.pieces = append(r.pieces, t)
}

func (r *reader) name() string {
	end := nameBytes(r.left)
	name := r.left[:end]
	need(Name(name))
	r.left = r.left[end:]
	return name
}

// blanks takes all that stand there, and tells whether there was one.
func (r *reader) blanks() bool {
	end := 0
	for end < len(r.left) && ent.Space(r.left[end]) {
		end++
	}
	r.left = r.left[end:]
	return end > 0
}

// upTo takes what stands ahead of an end, and the end.
func (r *reader) upTo(end string) string {
	ahead, behind, ok := strings.Cut(r.left, end)
	need(ok)
	r.left = behind
	return ahead
}

func (r *reader) skip(sign string) bool {
	left, ok := strings.CutPrefix(r.left, sign)
	r.left = left
	return ok
}

func decoded(text string) string {
	plain, e := ent.Decode(text)
	need(e == api.OK)
	return plain
}
