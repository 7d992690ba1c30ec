package fire

import (
	"iter"

	"mailcoach/api"
	"mailcoach/cron"
	"mailcoach/stamp"
)

// times are the days and times of a schedule from one up to another one, rising, each as the second that stamp has for it.
func times(c api.Cron, from, upto int) iter.Seq[int] {
	return func(yield func(int) bool) {
	days:
		for midnight, day := range daysOf(from, upto) {
			if !cron.Day(c, day.Year, day.Month, day.Day) {
				continue days
			}
			for _, hour := range c.L[api.Hour] {
				for _, minute := range c.L[api.Minute] {
					t := midnight + hour*secondsOfHour + minute*secondsOfMinute
					if t < from {
						continue
					}
					if t > upto || !yield(t) {
						break days
					}
				}
			}
		}
	}
}

// daysOf are the days that begin, or go on, from one day and time up to another one, each with its beginning's second; behind the calendar's end there are none.
func daysOf(from, upto int) iter.Seq2[int, api.Civil] {
	return func(yield func(midnight int, day api.Civil) bool) {
		day, e := stamp.At(from)
		midnight := from - day.Hour*secondsOfHour - day.Min*secondsOfMinute - day.Sec
		for e == api.OK && midnight <= upto && yield(midnight, day) {
			midnight += secondsOfDay
			day, e = stamp.At(midnight)
		}
	}
}
