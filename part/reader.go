package part

import (
	"bytes"

	"mailcoach/api"
	"mailcoach/head"
	"mailcoach/qp"
)

// guess takes bytes for parts loosely: whoever asks holds them against what is joined of its answer.
func guess(b []byte, boundary string) (kinds []string, l [][]byte, ok bool) {
	pieces := bytes.SplitN(b, []byte(dashes+boundary), maxParts+2) // with what stands ahead of all parts, and behind
	if len(pieces) < 3 {
		return nil, nil, false
	}
	for _, piece := range pieces[1 : len(pieces)-1] {
		kind, body, ok := guessPart(piece)
		if !ok {
			return nil, nil, false
		}
		kinds = append(kinds, kind)
		l = append(l, body)
	}
	return kinds, l, true
}

func guessPart(piece []byte) (kind string, body []byte, ok bool) {
	headers, code, e := head.Cut(bytes.TrimPrefix(piece, []byte(lineEnd)))
	if e != api.OK || len(headers) == 0 {
		return "", nil, false
	}
	body, e = qp.Decode(bytes.TrimSuffix(code, []byte(lineEnd)))
	return headers[0].Text, body, e == api.OK
}
