package reply

import (
	"iter"
	"strconv"
	"strings"

	"mailcoach/api"
)

// fault is what reading panics with at bytes that can't be an answer's, so that no step of it has to ask the one ahead.
type fault struct{}

func need(ok bool) {
	if !ok {
		panic(fault{})
	}
}

// line is one of an answer.
type line struct {
	code int
	last bool
	text string
}

// lines are all that are whole, of what waits and some bytes behind it. What stands behind them waits.
func (r *Reader) lines(b []byte) iter.Seq[line] {
	return func(yield func(line) bool) {
		// A 10 ends a line whatever stands ahead of it: one without a 13 can't become an answer's any more.
		ahead, behind, ends := strings.Cut(r.rest+string(b), "\n")
		for ends {
			if !yield(readLine(ahead)) {
				return
			}
			ahead, behind, ends = strings.Cut(behind, "\n")
		}
		need(len(ahead) < api.MaxReply)
		r.rest = strings.Clone(ahead) // not the bytes that came with it
	}
}

// readLine takes a line without its 10.
func readLine(s string) line {
	s, ok := strings.CutSuffix(s, "\r")
	need(ok && !strings.Contains(s, "\r"))
	need(len(s) >= beside-len(lineEnd) && len(s) <= api.MaxReply-len(lineEnd))
	code, _ := strconv.Atoi(s[:codeDigits]) // a sign ahead leaves it two digits, which are no code
	need(isCode(code))
	sign, text := s[codeDigits:codeDigits+1], s[codeDigits+1:]
	need(sign == goesOn || sign == isLast)
	return line{code: code, last: sign == isLast, text: strings.Clone(text)}
}

// add takes a line that comes next.
func (r *Reader) add(next line) {
	n := len(r.begun.Lines)
	need(n < api.MaxLines)
	need(n == 0 || next.code == r.begun.Code)
	r.begun.Code = next.code
	r.begun.Lines = append(r.begun.Lines, next.text)
}

// whole is the answer whose last line has come. The next one begins with nothing.
func (r *Reader) whole() api.Reply {
	x := r.begun
	x.More = enhanced(x)
	r.begun = api.Reply{}
	return x
}
