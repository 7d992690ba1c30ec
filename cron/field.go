package cron

import "mailcoach/api"

// lettersOfName are as many in each name, so that a name is found by its number.
const lettersOfName = 3

// field is which numbers a field may have, and how they may be written.
type field struct {
	first, last int
	written     int    // the greatest number that a text may have: above last it counts as first
	names       string // of the numbers from first on
}

func fields() [api.Fields]field {
	return [api.Fields]field{
		api.Minute: {first: 0, last: 59, written: 59},
		api.Hour:   {first: 0, last: 23, written: 23},
		api.Mday:   {first: 1, last: 31, written: 31},
		api.Month:  {first: 1, last: 12, written: 12, names: "janfebmaraprmayjunjulaugsepoctnovdec"},
		api.Wday:   {first: 0, last: 6, written: 7, names: "sunmontuewedthufrisat"},
	}
}

func (f field) may(numbers []int, isStar bool) bool {
	if len(numbers) == 0 {
		return false
	}
	least := f.first
	for _, n := range numbers {
		if n < least || n > f.last {
			return false
		}
		least = n + 1
	}
	// Numbers that rise within the bounds are all that there are, if they are as many.
	return !isStar || len(numbers) == f.last-f.first+1
}

// counted is what a number that may be written stands for.
func (f field) counted(n int) int {
	if n > f.last {
		return f.first
	}
	return n
}

// named is the number of a name, in small letters, and whether there is one.
func (f field) named(name string) (int, bool) {
	for i := 0; i < len(f.names); i += lettersOfName {
		if f.names[i:i+lettersOfName] == name {
			return f.first + i/lettersOfName, true
		}
	}
	return 0, false
}
