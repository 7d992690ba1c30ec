package digest

import (
	"strings"

	"mailcoach/api"
	"mailcoach/ent"
	"mailcoach/plain"
)

const (
	lineEnd  = "\n"
	mostText = 72 // bytes of a line, where that can be
	untitled = "(untitled)"
)

// way is how entries are written: as which kind, what stands ahead of them all and behind, and what is written of each.
type way struct {
	kind          string
	ahead, behind string
	entry         func(e api.Entry) string
}

func (w way) written(l []api.Item) string {
	var out strings.Builder
	out.WriteString(w.ahead)
	for _, item := range l {
		out.WriteString(w.entry(item.E))
	}
	out.WriteString(w.behind)
	return out.String()
}

func asText() way {
	return way{kind: "text/plain; charset=utf-8", entry: paragraph}
}

func asHtml() way {
	return way{
		kind:   "text/html; charset=utf-8",
		ahead:  "<ul>" + lineEnd,
		entry:  listed,
		behind: "</ul>" + lineEnd,
	}
}

// paragraph is an entry as text.
func paragraph(e api.Entry) string {
	lines := plain.Wrap(title(e), mostText)
	if e.Link != "" {
		lines = append(lines, e.Link) // never wrapped, so that it can be followed
	}
	if text := plain.Of(e.Text); text != "" {
		lines = append(lines, plain.Wrap(text, mostText)...)
	}
	lines = append(lines, "")
	return strings.Join(lines, lineEnd) + lineEnd
}

// listed is an entry as one of a list.
func listed(e api.Entry) string {
	return `<li><a href="` + ent.Encode(e.Link) + `">` + ent.Encode(title(e)) + "</a></li>" + lineEnd
}

func title(e api.Entry) string {
	if e.Title == "" {
		return untitled
	}
	return e.Title
}
