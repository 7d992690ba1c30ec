package ident

import "mailcoach/api"

// keys are those of all that is known so far.
type keys map[string]struct{}

func keysOf(known []string) keys {
	k := make(keys, len(known))
	for _, key := range known {
		k[key] = struct{}{}
	}
	return k
}

// admit tells whether an entry is fresh. It is known from then on, so whoever asks must go through entries in their order.
func (k keys) admit(e api.Entry) bool {
	key := Key(e)
	if _, known := k[key]; known {
		return false
	}
	k[key] = struct{}{}
	return true
}

// chosen asks of each entry once, in order.
func chosen(l []api.Entry, admit func(api.Entry) bool) []api.Entry {
	var some []api.Entry
	for _, e := range l {
		if admit(e) {
			some = append(some, e)
		}
	}
	return some
}
