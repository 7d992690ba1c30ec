package fire

import (
	"mailcoach/api"
	"mailcoach/local"
	"mailcoach/stamp"
)

// search is for the first second from one up to another one at which a schedule fires; what has been found narrows it to what is ahead of that.
type search struct {
	z          api.Zone
	c          api.Cron
	from, upto int
	found      int // 0 as long as there is none: nothing fires at 0
}

// first is that second, and true; 0 and false, if there is none.
func first(z api.Zone, c api.Cron, from, upto int) (int, bool) {
	if from > upto {
		return 0, false
	}
	s := &search{z: z, c: c, from: from, upto: upto}
	s.tryTurns()
	s.tryTimes()
	return s.found, s.found != 0
}

func (s *search) try(t int) {
	if t >= s.from && t <= s.upto && Fires(s.z, s.c, t) {
		s.found, s.upto = t, t-1
	}
}

// tryTurns tries all seconds at which the clock may be put forward.
func (s *search) tryTurns() {
	begin, _ := stamp.At(s.from)
	end, _ := stamp.At(s.upto)
	// A turn is at most some days outside of its year.
	for y := begin.Year - 1; y <= end.Year+1; y++ {
		// Without summer time these are noughts, at which nothing fires.
		from, upto, _ := local.Turns(s.z, y)
		s.try(from)
		s.try(upto)
	}
}

// tryTimes tries all seconds at which the clock may show a day and time of the schedule.
func (s *search) tryTimes() {
	least, most := offs(s.z)
	for shown := range times(s.c, s.from+least, s.upto+most) {
		if shown-most > s.upto {
			return
		}
		s.try(shown - most)
		s.try(shown - least)
	}
}

// offs are by how much a zone is ahead at least, and at most.
func offs(z api.Zone) (least, most int) {
	if !z.Has {
		return z.Off, z.Off
	}
	return min(z.Off, z.Ahead), max(z.Off, z.Ahead)
}
