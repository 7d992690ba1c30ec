package xml

import (
	"mailcoach/api"
	"mailcoach/ent"
)

// written is a list as a document; false: it is of none, as one of its pieces is of no kind, or as it is too long.
func written(l []api.Token) ([]byte, bool) {
	var document []byte
	for _, t := range l {
		text, ok := pieceText(t)
		if !ok {
			return nil, false
		}
		document = append(document, text...)
		// What follows makes it no shorter.
		if len(document) > api.MaxDoc {
			return nil, false
		}
	}
	return document, true
}

// pieceText is a piece as it is written; false: it is of no kind.
func pieceText(t api.Token) (string, bool) {
	switch t.Kind {
	case api.Open:
		return "<" + t.Name + attrsText(t.Attrs) + ">", true
	case api.Close:
		return "</" + t.Name + ">", true
	case api.Text:
		return ent.Encode(t.Text), true
	}
	return "", false
}

func attrsText(attrs []api.Attr) string {
	var text []byte
	for _, a := range attrs {
		text = append(text, " "+a.Name+`="`+ent.Encode(a.Text)+`"`...)
	}
	return string(text)
}
