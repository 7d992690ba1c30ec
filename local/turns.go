package local

import (
	"iter"

	"mailcoach/api"
	"mailcoach/stamp"
)

// turnsOf asks nothing: the zone must have summer time and may be, and the year be one of its years.
func turnsOf(z api.Zone, y int) (from, upto int) {
	from = dayOf(z.From, y)*secondsOfDay + z.From.At - z.Off
	upto = dayOf(z.To, y)*secondsOfDay + z.To.At - z.Ahead
	return from, upto
}

// turnsOfYears are those of the years from first up to last, year by year.
func turnsOfYears(z api.Zone, first, last int) iter.Seq2[int, int] {
	return func(yield func(from, upto int) bool) {
		for y := first; y <= last; y++ {
			if !yield(turnsOf(z, y)) {
				return
			}
		}
	}
}

// turnsAround are the turns of the years among which the last ones not above t are. A turn is at most nine days outside of its year (a week by At, a day and some by Off or Ahead, a day by a Zero rule's 365), so the one of two years ahead of t's is never above t, and the one of two years behind it always is.
func turnsAround(z api.Zone, t int) iter.Seq2[int, int] {
	// No error is possible: all that is asked for is a second from 0 to MaxTime.
	c, _ := stamp.At(t)
	return turnsOfYears(z, c.Year-2, c.Year+1)
}

// offAt asks nothing: the zone must be one that may be, and the second from 0 to MaxTime.
func offAt(z api.Zone, t int) int {
	if !z.Has {
		return z.Off
	}
	var begun, ended int
	for from, upto := range turnsAround(z, t) {
		// A rule's turns rise from year to year, so a later one that is not above t is the greater one.
		if from <= t {
			begun = from
		}
		if upto <= t {
			ended = upto
		}
	}
	if begun > ended {
		return z.Ahead
	}
	return z.Off
}
