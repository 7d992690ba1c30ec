package feed

import (
	"mailcoach/api"
	"mailcoach/stamp"
)

// kind is what the kinds of feeds have in common.
type kind interface {
	// body is the element whose parts the title and the entries are; false: the document has none.
	body(document []api.Token) ([]api.Token, bool)
	// entryName is the local name of an entry.
	entryName() string
	entry(element []api.Token) api.Entry
}

// kindOf is a document's kind, which its first name tells; false: it is of none.
func kindOf(document []api.Token) (kind, bool) {
	switch localName(document) {
	case "rss":
		return rss{}, true
	case "feed":
		return atom{}, true
	}
	return nil, false
}

// entries are those of a feed of any kind, no more and no longer than they may be.
func entries(k kind, body []api.Token) []api.Entry {
	var l []api.Entry
	for element := range partsNamed(body, k.entryName()) {
		if len(l) == api.MaxKeep {
			break
		}
		e := k.entry(element)
		e.Text = e.Text[:min(len(e.Text), api.MaxText)]
		l = append(l, e)
	}
	return l
}

// rss is the kind whose feed is a channel within the document.
type rss struct{}

func (rss) body(document []api.Token) ([]api.Token, bool) {
	return first(document, "channel")
}

func (rss) entryName() string { return "item" }

func (rss) entry(element []api.Token) api.Entry {
	return api.Entry{
		Id:    valueOf(element, "guid"),
		Title: valueOf(element, "title"),
		Link:  valueOf(element, "link"),
		Text:  valueOf(element, "description"),
	}
}

// atom is the kind whose feed is the document itself.
type atom struct{}

func (atom) body(document []api.Token) ([]api.Token, bool) {
	return document, true
}

func (atom) entryName() string { return "entry" }

func (atom) entry(element []api.Token) api.Entry {
	return api.Entry{
		Id:    valueOf(element, "id"),
		Title: valueOf(element, "title"),
		Link:  alternate(element),
		Text:  valueOf(element, "summary", "content"),
		At:    second(valueOf(element, "updated")),
	}
}

// alternate is where an entry's first link leads that is not to something else than the entry.
func alternate(entry []api.Token) string {
	for link := range partsNamed(entry, "link") {
		rel, has := attribute(link, "rel")
		if has && rel != "alternate" {
			continue
		}
		href, _ := attribute(link, "href")
		return href
	}
	return ""
}

// second is 0 for a text that tells none that an entry may have.
func second(text string) int {
	t, e := stamp.Parse(text)
	if e != api.OK || t < 0 || t > api.MaxTime {
		return 0
	}
	return t
}
