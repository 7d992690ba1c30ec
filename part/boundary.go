package part

import (
	"bytes"
	"strconv"
)

const begin = "=_" // of every boundary: quoted text has it nowhere

// numbers are those of the boundaries that stand in bodies, up to a greatest one.
type numbers struct {
	has  map[int]struct{}
	most int
}

// Boundary is the first one that stands nowhere in some bodies.
func Boundary(l [][]byte) string {
	size := 0
	for _, b := range l {
		size += len(b)
	}
	// each number in them has a byte of its own, its last digit: so there are no more than bytes
	found := numbers{has: map[int]struct{}{}, most: size}
	for _, b := range l {
		found.takeAll(b)
	}
	return begin + strconv.Itoa(found.free())
}

func (n numbers) takeAll(b []byte) {
	for {
		_, behind, ok := bytes.Cut(b, []byte(begin))
		if !ok {
			return
		}
		n.take(behind)
		b = behind
	}
}

// take goes digit by digit: where a number stands, the one without its last digit stands too.
func (n numbers) take(b []byte) {
	no := 0
	for _, c := range b {
		if !isDigit(c) {
			return
		}
		if no = no*10 + int(c-'0'); no > n.most {
			return
		}
		n.has[no] = struct{}{}
		if no == 0 {
			return // no other number begins so
		}
	}
}

// free is the least number that is not among them.
func (n numbers) free() int {
	for no := 0; ; no++ {
		if _, ok := n.has[no]; !ok {
			return no
		}
	}
}
