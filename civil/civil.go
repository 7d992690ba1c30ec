// Package civil is layer 1: see shared/doc/01-civil.md.
package civil

import "mailcoach/api"

const (
	firstOrd = -719162 // of January 1 of MinYear
	lastOrd  = 2932896 // of December 31 of MaxYear
	maxWday  = 1 << 40 // to either side: how far days of the week are told

	yearsOfCycle = 400 // leap years come again behind so many years
	daysOfCycle  = 146097
)

// Leap tells whether a year has a February 29, Days how many days a month has.
func Leap(y int) bool {
	return y%4 == 0 && y%100 != 0 || y%400 == 0
}

func Days(y, m int) int {
	if m < 1 || m > 12 {
		return 0
	}
	return lengths(y)[m]
}

// lengths has a nought ahead, so that January is at 1.
func lengths(y int) [13]int {
	months := [13]int{0, 31, 28, 31, 30, 31, 30, 31, 31, 30, 31, 30, 31}
	february := func() {
		if Leap(y) {
			months[2]++
		}
	}
	february()
	return months
}

// Ord is a day's number, Date a number's day; Wday the day of the week, Yday that of the year.
func Ord(y, m, d int) (int, api.Errno) {
	if !isDay(y, m, d) {
		return 0, api.ErrArg
	}
	return firstOrd + daysAhead(y) + dayOfYear(y, m, d) - 1, api.OK
}

func Date(n int) (y, m, d int, e api.Errno) {
	if n < firstOrd || n > lastOrd {
		return 0, 0, 0, api.ErrArg
	}
	left := n - firstOrd
	y = yearOf(left)
	m, d = monthOf(y, left-daysAhead(y))
	return y, m, d, api.OK
}

func Wday(n int) int {
	if n < -maxWday || n > maxWday {
		return 0
	}
	// What is left of a number below 0 is not above 0: 7 lifts it, 4 is the Thursday of the number 0.
	return (n%7 + 7 + 4) % 7
}

func Yday(y, m, d int) int {
	if !isDay(y, m, d) {
		return 0
	}
	return dayOfYear(y, m, d)
}

func isDay(y, m, d int) bool {
	return y >= api.MinYear && y <= api.MaxYear && d >= 1 && d <= Days(y, m)
}

// daysAhead counts the days from January 1 of the year 1 to that of y.
func daysAhead(y int) int {
	whole := y - 1
	return 365*whole + whole/4 - whole/100 + whole/400
}

func dayOfYear(y, m, d int) int {
	months := lengths(y)
	for _, days := range months[:m] {
		d += days
	}
	return d
}

// yearOf is the year of the day that is so many days behind January 1 of the year 1.
func yearOf(left int) int {
	// A guess by the mean length of a year is never too great, and at most one year too small.
	y := left*yearsOfCycle/daysOfCycle + 1
	if daysAhead(y+1) <= left {
		y++
	}
	return y
}

// monthOf is the month and day that are so many days, fewer than y has, behind January 1 of y.
func monthOf(y, left int) (m, d int) {
	months := lengths(y)
	m = 1
	for m < 12 && left >= months[m] {
		left -= months[m]
		m++
	}
	return m, left + 1
}
