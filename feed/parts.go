package feed

import (
	"iter"
	"slices"

	"mailcoach/api"
	"mailcoach/xml"
)

// isNested tells whether pieces are one element. Whoever asks for the parts of some must know that they are.
func isNested(l []api.Token) bool {
	if len(l) == 0 || l[0].Kind != api.Open {
		return false
	}
	within := []string{l[0].Name}
	for _, t := range l[1:] {
		last := len(within) - 1
		if last < 0 {
			return false
		}
		switch t.Kind {
		case api.Open:
			within = append(within, t.Name)
		case api.Close:
			if within[last] != t.Name {
				return false
			}
			within = within[:last]
		}
	}
	return len(within) == 0
}

// parts are the elements right within an element. They are pieces of its list, not copies: nothing here writes to them.
func parts(l []api.Token) iter.Seq[[]api.Token] {
	return func(yield func([]api.Token) bool) {
		begin, deep := 0, 0
		for i, t := range l {
			switch t.Kind {
			case api.Open:
				if deep == 1 {
					begin = i
				}
				deep++
			case api.Close:
				deep--
				if deep == 1 && !yield(l[begin:i+1]) {
					return
				}
			}
		}
	}
}

// partsNamed are those whose local name is one of some.
func partsNamed(l []api.Token, names ...string) iter.Seq[[]api.Token] {
	return func(yield func([]api.Token) bool) {
		for part := range parts(l) {
			if slices.Contains(names, localName(part)) && !yield(part) {
				return
			}
		}
	}
}

// first is the first part whose local name is one of some; false, and no pieces: there is none.
func first(l []api.Token, names ...string) ([]api.Token, bool) {
	for part := range partsNamed(l, names...) {
		return part, true
	}
	return nil, false
}

// valueOf is the value of that part, and nothing, if there is none.
func valueOf(l []api.Token, names ...string) string {
	part, _ := first(l, names...)
	return Value(part)
}

func localName(element []api.Token) string {
	return xml.Local(element[0].Name)
}

// attribute is the text of an element's first attribute of a local name.
func attribute(element []api.Token, name string) (text string, ok bool) {
	for _, a := range element[0].Attrs {
		if xml.Local(a.Name) == name {
			return a.Text, true
		}
	}
	return "", false
}

// cloned shares no list with the pieces.
func cloned(l []api.Token) []api.Token {
	l = slices.Clone(l)
	for i := range l {
		l[i].Attrs = slices.Clone(l[i].Attrs)
	}
	return l
}
