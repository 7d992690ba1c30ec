package fire

import (
	"encoding/binary"
	"math"
	"math/rand"
	"reflect"
	"slices"
	"testing"
	"time"

	"mailcoach/api"
	"mailcoach/cron"
	"mailcoach/local"
	"mailcoach/zone"
)

const (
	day      = 86400
	lastTurn = 253402214400 // 9999-12-31 00:00:00 UTC
)

// wild holds numbers that no call should be undone by.
var wild = []int{math.MinInt, math.MinInt + 1, math.MinInt + 93599, -1 << 62, -253402214400, -3456000, -86400, -1, 0, 1, 59, 60, 86399, 86400, 1711846800, 1729989000, 3456000, 253398758400, 253402214399, 253402214400, 253402214401, api.MaxTime, api.MaxTime + 1, 1 << 62, math.MaxInt - 93599, math.MaxInt - 3456000, math.MaxInt - 1, math.MaxInt}

// usual holds zones that there are, or were: the library can tell their time.
var usual = []string{
	"UTC0",
	"<+0545>-5:45",
	"HST10",
	"CET-1CEST,M3.5.0,M10.5.0/3",
	"EST5EDT,M3.2.0,M11.1.0",
	"NZST-12NZDT,M9.5.0,M4.1.0/3",
	"IST-1GMT0,M10.5.0,M3.5.0/1", // summer time is behind: the clock is put forward where it ends
	"<+1030>-10:30<+11>-11,M10.1.0,M4.1.0",
	"<-04>4<-03>,M9.1.6/24,M4.1.6/24", // midnight is skipped
	"<-02>2<-01>,M3.5.0/-1,M10.5.0/0",
	"EET-2EEST,M3.4.4/50,M10.4.4/50",
}

// odd holds zones whose turns lie outside of their years, meet, lie one within another's skip, or skip days.
var odd = []string{
	"AAA0BBB,J1/-167:59:59,365/167:59:59",
	"AAA0BBB,365/167:59:59,J1/-167:59:59",
	"AAA-24:59:59BBB,J1/-167:59:59,J365/167:59:59",
	"AAA24:59:59BBB-24:59:59,J60/0,J100",
	"AAA-24:59:59BBB24:59:59,J60/0,J100/167:59:59",
	"AAA24:59:59BBB-24:59:59,365/167,J1/-100",
	"AAA0BBB,J1/0,J1/1:00:01",         // summer time for a second
	"AAA0BBB,365/24,J1/1",             // they meet, in common years
	"AAA0BBB0,M3.5.0,M10.5.0",         // turns that change nothing
	"AAA0BBB-12,M3.5.0,M3.5.0/15",     // summer time for an hour: what is skipped comes nevertheless
	"AAA0BBB-24,J60/0,J60/1",          // the end is ahead of the beginning
	"AAA-1BBB1,J60,59/-2",             // back first
	"AAA0BBB-0:00:01,M5.1.3,M8.5.4",   // a second is skipped
	"AAA0BBB-0:00:59,M5.1.3,M8.5.4",   // no whole minute is, but the one that is turned at
	"AAA3:07:13BBB1:59:01,J59,J300/5", // no minute begins with one of UTC
}

var schedules = []string{
	"* * * * *",
	"30 2 * * *",
	"0 0 * * *",
	"0 3 * * *",
	"*/7 0-3,12,22-23 * * *",
	"59 23 * * *",
	"0,30 * * * sun",
	"15 1-2 */2 * mon",
	"0 0-23/5 1-3,29-31 3,10,12,1 *",
	"0 0 30 2 *", // never
}

func zoneOf(s string) api.Zone {
	z, e := zone.Parse(s)
	if e != api.OK {
		panic(s)
	}
	return z
}

func cronOf(s string) api.Cron {
	c, e := cron.Parse(s)
	if e != api.OK {
		panic(s)
	}
	return c
}

func cet() api.Zone { return zoneOf("CET-1CEST,M3.5.0,M10.5.0/3") }

// noZones are wrong in one field each.
func noZones() []api.Zone {
	list := []api.Zone{{}, {Has: true}, {Std: "UTC", Ahead: 1}, {Std: "UTC", Off: math.MaxInt}, {Std: "UTC", Off: math.MinInt}}
	for _, spoil := range []func(z *api.Zone){
		func(z *api.Zone) { z.Std = "" },
		func(z *api.Zone) { z.Dst = "DS" },
		func(z *api.Zone) { z.Off = 90000 },
		func(z *api.Zone) { z.Off = math.MinInt },
		func(z *api.Zone) { z.Ahead = -90000 },
		func(z *api.Zone) { z.Ahead = math.MaxInt },
		func(z *api.Zone) { z.Off, z.Ahead = math.MinInt, math.MaxInt },
		func(z *api.Zone) { z.Has = false },
		func(z *api.Zone) { z.From.Month = math.MaxInt },
		func(z *api.Zone) { z.To.At = math.MinInt },
	} {
		z := cet()
		spoil(&z)
		list = append(list, z)
	}
	return list
}

// noCrons are wrong in one field each.
func noCrons() []api.Cron {
	list := []api.Cron{{}}
	for i := range api.Fields {
		for _, l := range [][]int{nil, {-1}, {60}, {3, 2}, {3, 3}, {math.MinInt}, {math.MaxInt}, {3, math.MaxInt}, make([]int, 100000)} {
			c := cronOf("* * * * *")
			c.L[i], c.Star[i] = l, false
			list = append(list, c)
			c.Star[i] = true
			list = append(list, c)
		}
		c := cronOf("* * * * *")
		c.L[i] = c.L[i][1:]
		list = append(list, c)
	}
	return list
}

// location is the library's own reading of a zone's text: it stands behind a table of turns that has none.
func location(s string) *time.Location {
	head := append([]byte("TZif2"), make([]byte, 15)...)
	data := append(slices.Clone(head), make([]byte, 24)...)
	data = append(data, head...)
	for _, n := range []uint32{0, 0, 0, 0, 1, 4} {
		data = binary.BigEndian.AppendUint32(data, n)
	}
	data = append(data, make([]byte, 6)...)
	data = append(data, "UTC\x00\n"+s+"\n"...)
	place, err := time.LoadLocationFromTZData(s, data)
	if err != nil {
		panic(s)
	}
	return place
}

func civilOf(shown int) api.Civil {
	t := time.Unix(int64(shown), 0).UTC()
	return api.Civil{Year: t.Year(), Month: int(t.Month()), Day: t.Day(), Hour: t.Hour(), Min: t.Minute(), Sec: t.Second()}
}

// clock is how far a zone is ahead, by the library, if it can tell it.
func clock(s string) func(t int) int {
	if slices.Contains(usual, s) {
		place := location(s)
		return func(t int) int {
			_, off := time.Unix(int64(t), 0).In(place).Zone()
			return off
		}
	}
	z := zoneOf(s)
	return func(t int) int {
		off, e := local.Off(z, t)
		if e != api.OK {
			panic(t)
		}
		return off
	}
}

// model tells when something fires by going through all seconds, one by one: it has how far the clock is ahead at each of them, and so far ahead of the first one that nothing comes twice that it doesn't see.
type model struct {
	s          string
	from, upto int
	begin      int
	offs       []int
}

func modelOf(s string, from, upto int) model {
	z, off := zoneOf(s), clock(s)
	back := 1
	if z.Has {
		back += max(z.Off-z.Ahead, z.Ahead-z.Off)
	}
	m := model{s: s, from: from, upto: upto, begin: max(0, from-back)}
	for t := m.begin; t <= min(upto, api.MaxTime); t++ {
		m.offs = append(m.offs, off(t))
	}
	return m
}

// fires are the seconds above from, up to upto, at which it fires.
func (m model) fires(c api.Cron) []int {
	var list []int
	shownAlready := map[int]bool{}
	for i, off := range m.offs {
		t := m.begin + i
		is := i > 0 && skips(c, t+m.offs[i-1], t+off)
		if shown := t + off; shown%60 == 0 {
			x := civilOf(shown)
			is = is || cron.Match(c, x) && (x.Year == 9999 || x.Year >= 1970 && !shownAlready[shown])
			shownAlready[shown] = true
		}
		if is && t > m.from && t >= day && t <= lastTurn {
			list = append(list, t)
		}
	}
	return list
}

// skips tells whether a clock that goes on at next, where it would have gone on at shown, skips a day and time of c.
func skips(c api.Cron, shown, next int) bool {
	for ; shown < next; shown++ {
		if shown%60 == 0 && cron.Match(c, civilOf(shown)) {
			return true
		}
	}
	return false
}

// turns are those of some years at which a zone's clock is put forward or back, but those too near to 0 and to the end.
func turns(s string, years ...int) []int {
	var list []int
	for _, y := range years {
		from, upto, e := local.Turns(zoneOf(s), y)
		if e == api.OK {
			list = append(list, from, upto)
		}
	}
	if list == nil {
		list = []int{1711846800}
	}
	return list
}

// P6.1

func TestGap(t *testing.T) {
	for _, x := range []struct {
		s    string
		t    int
		by   int
		from api.Civil
	}{
		{"CET-1CEST,M3.5.0,M10.5.0/3", 1711846799, 0, api.Civil{}},
		{"CET-1CEST,M3.5.0,M10.5.0/3", 1711846800, 3600, api.Civil{Year: 2024, Month: 3, Day: 31, Hour: 2}},
		{"CET-1CEST,M3.5.0,M10.5.0/3", 1711846801, 0, api.Civil{}},
		{"CET-1CEST,M3.5.0,M10.5.0/3", 1729990800, 0, api.Civil{}}, // put back
		{"EST5EDT,M3.2.0,M11.1.0", 1710054000, 3600, api.Civil{Year: 2024, Month: 3, Day: 10, Hour: 2}},
		{"IST-1GMT0,M10.5.0,M3.5.0/1", 1711846800, 3600, api.Civil{Year: 2024, Month: 3, Day: 31, Hour: 1}},
		{"IST-1GMT0,M10.5.0,M3.5.0/1", 1729990800, 0, api.Civil{}},
		{"<+1030>-10:30<+11>-11,M10.1.0,M4.1.0", 1728142200, 1800, api.Civil{Year: 2024, Month: 10, Day: 6, Hour: 2}},
		{"<-04>4<-03>,M9.1.6/24,M4.1.6/24", 1725768000, 3600, api.Civil{Year: 2024, Month: 9, Day: 8}},
		{"AAA24:59:59BBB-24:59:59,J60/0,J100", 1709341199, 179998, api.Civil{Year: 2024, Month: 3, Day: 1}},
		{"AAA0BBB-0:00:01,M5.1.3,M8.5.4", 1714528800, 1, api.Civil{Year: 2024, Month: 5, Day: 1, Hour: 2}},
		{"AAA0BBB0,M3.5.0,M10.5.0", 1711850400, 0, api.Civil{}}, // a turn that changes nothing
		{"AAA0BBB,365/24,J1/1", 1704067200, 0, api.Civil{}},     // two turns at once
		{"UTC0", 1711846800, 0, api.Civil{}},

		// The first second at which it may be told, and those at its sides.
		{"AAA0BBB,J1/0:00:01,J60", 1, 3600, api.Civil{Year: 1970, Month: 1, Day: 1, Sec: 1}},
		{"AAA0BBB,J1/0,J60", 0, 0, api.Civil{}},
		{"AAA0BBB,J1/0,J60", 1, 0, api.Civil{}},
		{"AAA0BBB,J1/0:00:02,J60", 2, 3600, api.Civil{Year: 1970, Month: 1, Day: 1, Sec: 2}},
		{"AAA24:59:59BBB,0/-24:59:58,J60", 1, 3600, api.Civil{Year: 1969, Month: 12, Day: 30, Hour: 23, Min: 0, Sec: 2}},
		// The last one.
		{"AAA0BBB,J365/-0:00:01,J60", lastTurn - 1, 3600, api.Civil{Year: 9999, Month: 12, Day: 30, Hour: 23, Min: 59, Sec: 59}},
		{"AAA0BBB,J365/0,J60", lastTurn, 3600, api.Civil{Year: 9999, Month: 12, Day: 31}},
		{"AAA0BBB,J365/0:00:01,J60", lastTurn + 1, 0, api.Civil{}},
		{"AAA0BBB,J365/23:59:59,J60", api.MaxTime, 0, api.Civil{}},
		{"AAA-23:59:59BBB,J365/23:59:59,J60", lastTurn, 3600, api.Civil{Year: 9999, Month: 12, Day: 31, Hour: 23, Min: 59, Sec: 59}},
		// The clock skips what is behind the calendar's end: there is no such day and time.
		{"AAA-24BBB,J365/24,J60", lastTurn, 3600, api.Civil{}},
		{"AAA-24:59:59BBB,J365/24:59:59,J60", lastTurn, 3600, api.Civil{}},
	} {
		if by, from := Gap(zoneOf(x.s), x.t); by != x.by || from != x.from {
			t.Errorf("Gap(%s, %d) = %d, %v, want %d, %v", x.s, x.t, by, from, x.by, x.from)
		}
	}
}

func TestGapAtEverySecondAroundTurns(t *testing.T) {
	t.Parallel()
	for _, s := range slices.Concat(usual, odd) {
		off, z := clock(s), zoneOf(s)
		for _, turn := range turns(s, 1971, 2023, 2024, 2025, 9998) {
			for n := turn - 1000; n <= turn+1000; n++ {
				want, from := max(0, off(n)-off(n-1)), api.Civil{}
				if want > 0 {
					from = civilOf(n + off(n-1))
				}
				if by, got := Gap(z, n); by != want || got != from {
					t.Fatalf("Gap(%s, %d) = %d, %v, want %d, %v", s, n, by, got, want, from)
				}
			}
		}
	}
}

func TestGapOfNone(t *testing.T) {
	for _, n := range wild {
		for i, z := range noZones() {
			if by, from := Gap(z, n); by != 0 || from != (api.Civil{}) {
				t.Errorf("%d: Gap(%+v, %d) = %d, %v", i, z, n, by, from)
			}
		}
		if n == 1711846800 {
			continue
		}
		for _, s := range usual {
			if by, from := Gap(zoneOf(s), n); by != 0 || from != (api.Civil{}) {
				t.Errorf("Gap(%s, %d) = %d, %v", s, n, by, from)
			}
		}
	}
}

// P6.2

func TestFires(t *testing.T) {
	const (
		berlin  = "CET-1CEST,M3.5.0,M10.5.0/3"
		forward = "AAA0BBB-12,M3.5.0,M3.5.0/15" // at 2 from 2:00 to 14:00, an hour later from 15:00 back to 3:00
	)
	for _, x := range []struct {
		s, c string
		t    int
		want bool
	}{
		{"UTC0", "30 6 * * *", 1711866600, true},
		{"UTC0", "30 6 * * *", 1711866599, false},
		{"UTC0", "30 6 * * *", 1711866601, false},
		{"UTC0", "30 6 * * *", 1711866660, false},
		{"UTC0", "30 6 * * sun", 1711866600, true},
		{"UTC0", "30 6 * * mon", 1711866600, false},
		{"UTC0", "30 6 31 * mon", 1711866600, true},
		{"UTC0", "30 6 1 * mon", 1711866600, false},
		{"UTC0", "30 6 * apr *", 1711866600, false},
		{"<+0545>-5:45", "15 12 * * *", 1711866600, true},
		{"<+0545>-5:45", "30 6 * * *", 1711866600, false},

		{berlin, "30 2 * * *", 1711762200, true},  // the day ahead
		{berlin, "30 2 * * *", 1711846799, false}, // skipped
		{berlin, "30 2 * * *", 1711846800, true},
		{berlin, "30 2 * * *", 1711846801, false},
		{berlin, "30 2 * * *", 1711848600, false},
		{berlin, "30 2 * * *", 1711845000, false},
		{berlin, "30 2 * * *", 1711931400, true}, // the day behind
		{berlin, "0 2 * * *", 1711846800, true},  // the first that is skipped
		{berlin, "59 2 * * *", 1711846800, true}, // the last one
		{berlin, "0 3 * * *", 1711846800, true},  // what is shown then
		{berlin, "59 1 * * *", 1711846800, false},
		{berlin, "1 3 * * *", 1711846800, false},
		{berlin, "59 1 * * *", 1711846740, true},
		{berlin, "1 3 * * *", 1711846860, true},
		{berlin, "30 2 * * sat", 1711846800, false}, // another day
		{berlin, "30 2 31 * *", 1711846800, true},
		{berlin, "* * * * *", 1711846800, true},

		{berlin, "30 2 * * *", 1729989000, true}, // comes twice
		{berlin, "30 2 * * *", 1729992600, false},
		{berlin, "0 2 * * *", 1729987200, true},
		{berlin, "0 2 * * *", 1729990800, false},
		{berlin, "59 2 * * *", 1729990740, true},
		{berlin, "59 2 * * *", 1729994340, false},
		{berlin, "0 3 * * *", 1729994400, true},
		{berlin, "0 3 * * *", 1729990800, false},
		{berlin, "* * * * *", 1729990740, true},
		{berlin, "* * * * *", 1729990800, false},
		{berlin, "* * * * *", 1729994340, false},
		{berlin, "* * * * *", 1729994400, true},

		// Midnight, and with it the day's beginning, is skipped.
		{"<-04>4<-03>,M9.1.6/24,M4.1.6/24", "0 0 8 9 *", 1725768000, true},
		{"<-04>4<-03>,M9.1.6/24,M4.1.6/24", "0 1 8 9 *", 1725768000, true},
		{"<-04>4<-03>,M9.1.6/24,M4.1.6/24", "0 0 7 9 *", 1725768000, false},
		{"IST-1GMT0,M10.5.0,M3.5.0/1", "30 1 * * *", 1711846800, true},
		{"IST-1GMT0,M10.5.0,M3.5.0/1", "30 1 * * *", 1729989000 - 3600, false},
		{"IST-1GMT0,M10.5.0,M3.5.0/1", "30 1 * * *", 1729989000, true},
		{"IST-1GMT0,M10.5.0,M3.5.0/1", "30 1 * * *", 1729992600, false},

		// Two days are skipped, from 2024-03-01 00:00:00 up to 2024-03-03 01:59:57.
		{"AAA24:59:59BBB-24:59:59,J60/0,J100", "0 0 1 3 *", 1709341199, true},
		{"AAA24:59:59BBB-24:59:59,J60/0,J100", "0 12 2 3 *", 1709341199, true},
		{"AAA24:59:59BBB-24:59:59,J60/0,J100", "59 1 3 3 *", 1709341199, true},
		{"AAA24:59:59BBB-24:59:59,J60/0,J100", "0 2 3 3 *", 1709341199, false},
		{"AAA24:59:59BBB-24:59:59,J60/0,J100", "59 23 29 2 *", 1709341199, false},
		{"AAA24:59:59BBB-24:59:59,J60/0,J100", "0 2 3 3 *", 1709341201, true},
		// Of what is skipped no minute has its beginning, and then one.
		{"AAA0BBB-0:00:01,M5.1.3/2:00:01,M8.5.4", "* * * * *", 1714528801, false},
		{"AAA0BBB-0:00:01,M5.1.3,M8.5.4", "* * * * *", 1714528800, true},
		{"AAA0BBB-0:00:01,M5.1.3,M8.5.4", "1 2 * * *", 1714528859, true},
		{"AAA0BBB-0:00:59,M5.1.3/2:00:01,M8.5.4", "1 2 * * *", 1714528801, true}, // shown
		{"AAA0BBB-0:00:58,M5.1.3/2:00:01,M8.5.4", "1 2 * * *", 1714528801, false},

		// What is skipped, and comes nevertheless, fires both times: the one promise does not ask for the other.
		{forward, "30 8 * * *", 1711850400, true},
		{forward, "30 8 * * *", 1711873800, true},
		{forward, "30 14 * * *", 1711852200, true},
		{forward, "30 14 * * *", 1711895400, false},
	} {
		if got := Fires(zoneOf(x.s), cronOf(x.c), x.t); got != x.want {
			t.Errorf("Fires(%s, %s, %d) = %t", x.s, x.c, x.t, got)
		}
	}
}

// Nothing fires on the first day and on the last one of all seconds.
func TestFiresAtTheEnds(t *testing.T) {
	for _, x := range []struct {
		s, c string
		t    int
		want bool
	}{
		{"UTC0", "* * * * *", 0, false},
		{"UTC0", "* * * * *", 86340, false},
		{"UTC0", "* * * * *", 86400, true},
		{"UTC0", "* * * * *", 86460, true},
		{"UTC0", "* * * * *", lastTurn - 60, true},
		{"UTC0", "* * * * *", lastTurn, true},
		{"UTC0", "* * * * *", lastTurn + 60, false},
		{"UTC0", "* * * * *", api.MaxTime - 59, false},
		{"<+00>-0:00:01", "* * * * *", 86399, false},
		{"<+00>0:00:01", "* * * * *", lastTurn + 1, false},

		// The clock is put forward there.
		{"AAA0BBB,J2/0,J60", "30 0 * * *", 86400, true},
		{"AAA0BBB,J1/23:59:59,J60", "30 0 * * *", 86399, false},
		{"AAA0BBB,J365/0,J60", "30 0 * * *", lastTurn, true},
		{"AAA0BBB,J365/0:00:01,J60", "30 0 * * *", lastTurn + 1, false},
		// The clock skips the calendar's end, and what is behind it.
		{"AAA-23:30BBB,J365/23:30,J60", "30 23 31 12 *", lastTurn, true},
		{"AAA-23:30BBB,J365/23:30,J60", "59 23 31 12 *", lastTurn, true},
		{"AAA-23:30BBB,J365/23:30,J60", "29 23 31 12 *", lastTurn, false},
		{"AAA-23:30BBB,J365/23:30,J60", "0 0 1 1 *", lastTurn, false},
		{"AAA-24BBB,J365/24,J60", "* * * * *", lastTurn, false},
		{"AAA-24", "* * * * *", lastTurn, false},
		{"AAA-24:59", "* * * * *", lastTurn - 3600, true},

		// A day and time of 1969 is shown still: local has no seconds of it. If it is skipped, it fires.
		{"AAA24:10", "50 23 * * *", 86400, false},
		{"AAA24:10", "0 0 * * *", 87000, true},
		{"AAA24:10BBB,0/-0:10,J60", "50 23 * * *", 86400, true},
		{"AAA24:10BBB24:05,0/-0:10,J60", "54 23 * * *", 86400, true},
		{"AAA24:10BBB24:05,0/-0:10,J60", "55 23 * * *", 86400, false},
		{"AAA24:10BBB,0/-0:05,J60", "55 23 * * *", 86700, true},
		{"AAA24:10BBB,0/-0:05,J60", "54 23 * * *", 86700, false},
		// The first one of two seconds is on the first day.
		{"AAA0BBB,J60,J2/1:30", "0 1 * * *", 82800, false},
		{"AAA0BBB,J1/0,J2/1:30", "0 1 2 * *", 86400, true},
		{"AAA0BBB,J1/0,J2/1:30", "0 1 2 * *", 90000, false},
		{"AAA0BBB,J1/0,J2/1", "30 0 2 * *", 88200, false},
		{"AAA0BBB,J1/0,J2/0:30", "45 23 1 * *", 85500, false},
		{"AAA0BBB,J1/0,J2/0:30", "15 0 2 * *", 83700, false},
		{"AAA0BBB,J1/0,J2/0:30", "15 0 2 * *", 87300, false},
		{"AAA0BBB,J1/0,J2/0:30", "30 0 2 * *", 88200, true},

		// Of 9999 both seconds fire, up to 9998 the first one.
		{"AAA0BBB,J100,J365/1", "30 0 31 12 *", lastTurn - 365*day - 1800, true},
		{"AAA0BBB,J100,J365/1", "30 0 31 12 *", lastTurn - 365*day + 1800, false},
		{"AAA0BBB,J100,J365/1", "30 0 31 12 *", lastTurn - 1800, true},
		{"AAA0BBB,J100,J365/1", "0 0 31 12 *", lastTurn, true},
		{"AAA0BBB,J100,J1/0", "30 23 31 12 *", lastTurn - 364*day - 5400, true},
		{"AAA0BBB,J100,J1/0", "30 23 31 12 *", lastTurn - 364*day - 1800, false},
		{"AAA0BBB,J100,J1/1", "0 0 1 1 *", lastTurn - 364*day - 3600, true},
		{"AAA0BBB,J100,J1/1", "0 0 1 1 *", lastTurn - 364*day, true},
	} {
		if got := Fires(zoneOf(x.s), cronOf(x.c), x.t); got != x.want {
			t.Errorf("Fires(%s, %s, %d) = %t", x.s, x.c, x.t, got)
		}
	}
}

func TestFiresAtEverySecondAroundTurns(t *testing.T) {
	t.Parallel()
	for i, s := range slices.Concat(usual, odd) {
		for j, turn := range turns(s, 2023, 2024) {
			m := modelOf(s, turn-5000, turn+5000)
			holdFires(t, m, schedules[(i+j)%2])
			holdFires(t, m, schedules[(i+j)%len(schedules)])
		}
	}
}

// holdFires holds Fires against the model at all its seconds.
func holdFires(t *testing.T, m model, c string) {
	t.Helper()
	list, z, schedule := m.fires(cronOf(c)), zoneOf(m.s), cronOf(c)
	for n := m.from + 1; n <= m.upto; n++ {
		_, want := slices.BinarySearch(list, n)
		if got := Fires(z, schedule, n); got != want {
			t.Fatalf("Fires(%s, %s, %d) = %t", m.s, c, n, got)
		}
	}
}

func TestFiresAtEverySecondNearTheEnds(t *testing.T) {
	t.Parallel()
	for _, s := range []string{"UTC0", "CET-1CEST,M3.5.0,M10.5.0/3", "AAA-24:59BBB24,J1/1,J5", "AAA24:59BBB-24,J2/1,J5", "AAA0BBB,J1/0,J2/0:30", "AAA-23:30BBB,J365/22,J365/25", "AAA24:10BBB-0:03:07,J364/0,J364/12"} {
		holdFires(t, modelOf(s, -1, 100000), "* * * * *")
		holdFires(t, modelOf(s, lastTurn-20000, lastTurn+2000), "* * * * *")
	}
}

func TestFiresOfNone(t *testing.T) {
	for _, n := range wild {
		for i, z := range noZones() {
			if Fires(z, cronOf("* * * * *"), n) {
				t.Errorf("zone %d: Fires(%+v, .., %d)", i, z, n)
			}
		}
		for i, c := range noCrons() {
			for _, s := range []string{"UTC0", "CET-1CEST,M3.5.0,M10.5.0/3"} {
				if Fires(zoneOf(s), c, n) {
					t.Errorf("schedule %d: Fires(%s, .., %d)", i, s, n)
				}
			}
		}
		may := n >= 86400 && n <= lastTurn && n%60 == 0
		if Fires(zoneOf("UTC0"), cronOf("* * * * *"), n) != may {
			t.Errorf("Fires(UTC0, * * * * *, %d) = %t", n, !may)
		}
	}
}

// P6.3

func TestNext(t *testing.T) {
	const berlin = "CET-1CEST,M3.5.0,M10.5.0/3"
	for _, x := range []struct {
		s, c       string
		from, upto int
		t          int
		ok         bool
	}{
		{"UTC0", "30 6 * * *", 1711800000, 1711900000, 1711866600, true},
		{"UTC0", "30 6 * * *", 1711866599, 1711900000, 1711866600, true},
		{"UTC0", "30 6 * * *", 1711866600, 1711900000, 0, false}, // from is not of them
		{"UTC0", "30 6 * * *", 1711866600, 1711953000, 1711953000, true},
		{"UTC0", "30 6 * * *", 1711866599, 1711866600, 1711866600, true}, // upto is
		{"UTC0", "30 6 * * *", 1711866598, 1711866599, 0, false},
		{"UTC0", "30 6 * * *", 1711866600, 1711866600, 0, false},
		{"UTC0", "30 6 * * *", 1711866600, 1711866599, 0, false},
		{"UTC0", "30 6 * * *", 1711866601, 1711866600, 0, false},
		{"UTC0", "0 0 30 2 *", 1711866600, 1711866600 + 40*day, 0, false},
		{"UTC0", "0 0 29 2 *", 1706745600, 1706745600 + 40*day, 1709164800, true},
		{"UTC0", "0 0 29 2 *", 1675209600, 1675209600 + 40*day, 0, false},
		{"UTC0", "0 0 1 1 *", 1704067199, 1704067200, 1704067200, true},
		{"UTC0", "0 0 13 * 5", 1711929600, 1711929600 + 40*day, 1712275200, true},

		{berlin, "30 2 * * *", 1711762200, 1711762200 + 40*day, 1711846800, true},
		{berlin, "30 2 * * *", 1711846799, 1711846800, 1711846800, true},
		{berlin, "30 2 * * *", 1711846800, 1711846800 + 40*day, 1711931400, true},
		{berlin, "30 2 * * *", 1729902600, 1729902600 + 40*day, 1729989000, true},
		{berlin, "30 2 * * *", 1729988999, 1729989000, 1729989000, true},
		{berlin, "30 2 * * *", 1729989000, 1729989000 + 40*day, 1730079000, true},
		{berlin, "30 2 27 10 *", 1729989000, 1729989000 + 40*day, 0, false},
		{berlin, "0,30 2,3 * * *", 1711846800, 1711846800 + 40*day, 1711848600, true},
		{berlin, "0,30 2,3 * * *", 1729989000, 1729989000 + 40*day, 1729994400, true},
		{berlin, "* * * * *", 1729990740, 1729990740 + 40*day, 1729994400, true},
		{berlin, "* * * * *", 1729990740, 1729994399, 0, false},

		// Turns in the year ahead and in the one behind, which are all that fires.
		{"AAA0BBB,J365/100,J60", "30 4 4 1 *", 1704240000, 1704400000, 1704340800, true},
		{"AAA0BBB,J1/-100,J60", "30 20 27 12 *", 1703600000, 1703720000, 1703707200, true},
		{"AAA24:59:59BBB-24:59:59,J60/0,J100", "0 12 2 3 *", 1709341198, 1709341199, 1709341199, true},
		{"AAA24:59:59BBB-24:59:59,J60/0,J100", "0 12 2 3 *", 1709251200, 1709251200 + 40*day, 1709341199, true},
		{"AAA24:59:59BBB-24:59:59,J60/0,J100", "0 12 2 3 *", 1709341199, 1709341199 + 40*day, 0, false},
	} {
		if n, ok := Next(zoneOf(x.s), cronOf(x.c), x.from, x.upto); n != x.t || ok != x.ok {
			t.Errorf("Next(%s, %s, %d, %d) = %d, %t, want %d, %t", x.s, x.c, x.from, x.upto, n, ok, x.t, x.ok)
		}
	}
}

func TestNextUpToFortyDays(t *testing.T) {
	z, c := zoneOf("UTC0"), cronOf("0 0 29 2 *")
	const leapDay = 1709164800
	for _, x := range []struct {
		from, upto int
		ok         bool
	}{
		{leapDay - 3456000, leapDay, true},
		{leapDay - 3456001, leapDay, false},
		{leapDay - 3456000, leapDay + 1, false},
		{leapDay - 1, leapDay - 1 + 3456000, true},
		{leapDay - 1, leapDay + 3456000, false},
		{leapDay - 40*day - 1, leapDay - 1, false},
		{0, leapDay, false},
		{0, math.MaxInt, false},
		{leapDay - 1, math.MaxInt, false},
		{leapDay - 1, math.MinInt, false},
	} {
		n, ok := Next(z, c, x.from, x.upto)
		if ok != x.ok || ok && n != leapDay || !ok && n != 0 {
			t.Errorf("Next(UTC0, .., %d, %d) = %d, %t", x.from, x.upto, n, ok)
		}
	}
}

func TestNextAtTheEnds(t *testing.T) {
	for _, x := range []struct {
		s, c       string
		from, upto int
		t          int
		ok         bool
	}{
		{"UTC0", "* * * * *", 0, 3456000, 86400, true},
		{"UTC0", "* * * * *", 0, 86400, 86400, true},
		{"UTC0", "* * * * *", 0, 86399, 0, false},
		{"UTC0", "* * * * *", 86399, 86400, 86400, true},
		{"UTC0", "* * * * *", 86400, 86460, 86460, true},
		{"UTC0", "* * * * *", -1, 86400, 0, false}, // from is below 0
		{"UTC0", "* * * * *", -1, 3455999, 0, false},
		{"UTC0", "* * * * *", -3456000, 0, 0, false},
		{"UTC0", "* * * * *", math.MinInt, math.MinInt + 100, 0, false},
		{"UTC0", "* * * * *", math.MinInt, math.MaxInt, 0, false}, // a difference that wraps around
		{"UTC0", "* * * * *", math.MinInt, 86400, 0, false},
		{"UTC0", "* * * * *", -1 << 62, 1 << 62, 0, false},
		{"UTC0", "* * * * *", lastTurn - 1, lastTurn + 3000000, lastTurn, true},
		{"UTC0", "* * * * *", lastTurn, lastTurn + 3456000, 0, false},
		{"UTC0", "* * * * *", lastTurn - 40*day, lastTurn, lastTurn - 40*day + 60, true},
		{"UTC0", "0 0 31 12 *", lastTurn - 40*day, lastTurn, lastTurn, true},
		{"UTC0", "1 0 31 12 *", lastTurn - 1000, lastTurn + 1000, 0, false},
		{"UTC0", "* * * * *", api.MaxTime, api.MaxTime + 1000, 0, false},
		{"UTC0", "* * * * *", math.MaxInt - 3456000, math.MaxInt, 0, false},
		{"UTC0", "* * * * *", math.MaxInt - 1, math.MaxInt, 0, false},
		{"UTC0", "* * * * *", math.MaxInt, math.MaxInt, 0, false},

		{"AAA0BBB,J2/0,J60", "30 0 * * *", 0, 86400, 86400, true},
		{"AAA0BBB,J2/0,J60", "30 0 * * *", 0, 86399, 0, false},
		{"AAA0BBB,J365/0,J60", "30 0 * * *", lastTurn - 100, lastTurn + 100, lastTurn, true},
		{"AAA0BBB,J365/0:00:01,J60", "30 0 * * *", lastTurn - 100, lastTurn + 100, 0, false},
		{"AAA-23:30BBB,J365/23:30,J60", "59 23 31 12 *", lastTurn - 100, lastTurn + 100, lastTurn, true},
		{"AAA-24BBB,J365/24,J60", "* * * * *", lastTurn - 1, lastTurn + 100, 0, false},
		{"AAA24:10", "50 23 * * *", 0, 87000, 0, false},
		{"AAA24:10BBB,0/-0:05,J60", "55 23 * * *", 0, 87000, 86700, true},

		// In 9999 what comes twice fires twice.
		{"AAA0BBB,J100,J365/1", "30 0 31 12 *", lastTurn - 366*day, lastTurn - 364*day, lastTurn - 365*day - 1800, true},
		{"AAA0BBB,J100,J365/1", "30 0 31 12 *", lastTurn - 365*day - 1800, lastTurn - 364*day, 0, false},
		{"AAA0BBB,J100,J365/0:40", "10 0 31 12 *", lastTurn - 4000, lastTurn, lastTurn - 3000, true},
		{"AAA0BBB,J100,J364/0:40", "10 0 30 12 *", lastTurn - day - 4000, lastTurn, lastTurn - day - 3000, true},
		{"AAA0BBB,J100,J364/0:40", "10 0 30 12 *", lastTurn - day - 3000, lastTurn, lastTurn - day + 600, true},
		{"AAA0BBB,J100,J364/0:40", "10 0 30 12 *", lastTurn - day + 600, lastTurn, 0, false},
	} {
		if n, ok := Next(zoneOf(x.s), cronOf(x.c), x.from, x.upto); n != x.t || ok != x.ok {
			t.Errorf("Next(%s, %s, %d, %d) = %d, %t, want %d, %t", x.s, x.c, x.from, x.upto, n, ok, x.t, x.ok)
		}
	}
}

// holdNext goes on from one second that fires to the next one, and holds them against the model's.
func holdNext(t *testing.T, m model, c string) {
	t.Helper()
	list, z, schedule := m.fires(cronOf(c)), zoneOf(m.s), cronOf(c)
	for now := m.from; ; {
		n, ok := Next(z, schedule, now, m.upto)
		if !ok && n == 0 && len(list) == 0 {
			return
		}
		if !ok || len(list) == 0 || n != list[0] {
			t.Fatalf("Next(%s, %s, %d, %d) = %d, %t, want the first of %d", m.s, c, now, m.upto, n, ok, list[:min(3, len(list))])
		}
		now, list = n, list[1:]
	}
}

func TestNextAroundTurns(t *testing.T) {
	t.Parallel()
	for i, s := range slices.Concat(usual, odd) {
		for j, turn := range turns(s, 2024, 9998) {
			m := modelOf(s, turn-20000, turn+20000)
			for k, c := range schedules {
				if k < 2 || (i+j+k)%4 == 0 {
					holdNext(t, m, c)
				}
			}
		}
	}
}

func TestNextWithinDaysAroundTurns(t *testing.T) {
	t.Parallel()
	for i, s := range odd {
		for j, turn := range turns(s, 2024) {
			holdNext(t, modelOf(s, turn-2*day, turn+2*day), schedules[1+(i+j)%8])
		}
	}
}

func TestNextWithinFortyDays(t *testing.T) {
	t.Parallel()
	for i, s := range usual[2:7] {
		turn := turns(s, 2024)[0]
		holdNext(t, modelOf(s, turn-20*day, turn+20*day), schedules[1+i%8])
	}
}

// From any second, and up to any one.
func TestNextFromAnywhere(t *testing.T) {
	t.Parallel()
	source := rand.New(rand.NewSource(9))
	for _, s := range slices.Concat(usual, odd) {
		for _, turn := range turns(s, 2024) {
			m := modelOf(s, turn-45000, turn+45000)
			for _, c := range []string{schedules[source.Intn(len(schedules))], "*/20 * * * *"} {
				list := m.fires(cronOf(c))
				for range 200 {
					a := m.from + source.Intn(90000)
					holdNextWithin(t, s, c, list, a, a+source.Intn(m.upto-a+1))
				}
			}
		}
	}
}

// holdNextWithin holds one answer against a list of all seconds that fire.
func holdNextWithin(t *testing.T, s, c string, list []int, from, upto int) {
	t.Helper()
	i, _ := slices.BinarySearch(list, from+1)
	want, some := 0, i < len(list) && list[i] <= upto
	if some {
		want = list[i]
	}
	if n, ok := Next(zoneOf(s), cronOf(c), from, upto); n != want || ok != some {
		t.Fatalf("Next(%s, %s, %d, %d) = %d, %t, want %d, %t", s, c, from, upto, n, ok, want, some)
	}
}

func TestNextOfNone(t *testing.T) {
	for _, from := range wild {
		for _, upto := range []int{from + 1, from + 100000, from + 3456000, from - 1, math.MinInt, math.MaxInt} {
			for i, z := range noZones() {
				if n, ok := Next(z, cronOf("* * * * *"), from, upto); n != 0 || ok {
					t.Errorf("zone %d: Next(.., %d, %d) = %d, %t", i, from, upto, n, ok)
				}
			}
			for i, c := range noCrons() {
				if n, ok := Next(cet(), c, from, upto); n != 0 || ok {
					t.Errorf("schedule %d: Next(.., %d, %d) = %d, %t", i, from, upto, n, ok)
				}
			}
		}
	}
}

func TestNextWithWildNumbers(t *testing.T) {
	z, c := zoneOf("UTC0"), cronOf("* * * * *")
	for _, from := range wild {
		for _, upto := range append(wild, from+1, from+60, from+3456000, from+3456001) {
			want, some := 0, false
			if from >= 0 && upto > from && upto-from <= 3456000 && from < lastTurn {
				want = max(day, from/60*60+60)
				some = want <= min(upto, lastTurn)
			}
			if n, ok := Next(z, c, from, upto); ok != some || some && n != want || !some && n != 0 {
				t.Errorf("Next(UTC0, .., %d, %d) = %d, %t, want %d, %t", from, upto, n, ok, want, some)
			}
		}
	}
}

// What takes longest: all minutes, where few of the seconds that are tried fire.
func TestNextIsFoundSoon(t *testing.T) {
	begin := time.Now()
	for _, s := range odd {
		for _, c := range []string{"* * * * *", "* * 30 2 *", "* * 1 1 *"} {
			for _, turn := range turns(s, 2024) {
				for from := turn - 200000; from <= turn+200000; from += 40000 {
					Next(zoneOf(s), cronOf(c), from, from+3456000)
				}
			}
		}
	}
	if spent := time.Since(begin); spent > time.Minute {
		t.Errorf("it took %s", spent)
	}
}

// P6.4

// A schedule of each day fires once on each day of a year, whatever the clock does.
func TestOnceADay(t *testing.T) {
	for _, s := range usual {
		z, place := zoneOf(s), location(s)
		begin := int(time.Date(2024, 1, 1, 0, 0, 0, 0, place).Unix())
		end := int(time.Date(2025, 1, 1, 0, 0, 0, 0, place).Unix())
		for _, text := range []string{"0 0 * * *", "30 0 * * *", "0 1 * * *", "30 1 * * *", "0 2 * * *", "15 2 * * *", "30 2 * * *", "59 2 * * *", "0 3 * * *", "30 3 * * *", "59 23 * * *", "30 23 * * *"} {
			c, times, ahead := cronOf(text), 0, 0
			for now := begin - 1; ; times++ {
				n, ok := Next(z, c, now, min(now+3456000, end-1))
				if !ok {
					break
				}
				if times > 0 && (n-ahead < day-3600 || n-ahead > day+3600) {
					t.Errorf("%s, %s: fires at %d, and at %d", s, text, ahead, n)
				}
				now, ahead = n, n
			}
			if times != 366 {
				t.Errorf("%s, %s: fires %d times in 2024", s, text, times)
			}
		}
	}
}

// All that is skipped at a time fires together; of two hours with the same times the first one fires.
func TestWhatIsSkippedAndWhatComesTwice(t *testing.T) {
	z, c := cet(), cronOf("*/10 * * * *")
	for _, x := range []struct{ from, upto, times int }{
		{1711846799, 1711846800, 1},                // 3:00, and all from 2:00 to 2:50
		{1711846799, 1711846800 + 3599, 6},         // the hour behind it
		{1711846800 - 3601, 1711846800 + 3599, 12}, // with the one ahead
		{1729990800 - 3601, 1729990799, 6},         // the first hour from 2:00 on
		{1729990799, 1729990800 + 3599, 0},         // the second one
		{1729990800 + 3599, 1729990800 + 7199, 6},
	} {
		times := 0
		for now := x.from; ; times++ {
			n, ok := Next(z, c, now, x.upto)
			if !ok {
				break
			}
			now = n
		}
		if times != x.times {
			t.Errorf("from %d up to %d it fires %d times, want %d", x.from, x.upto, times, x.times)
		}
	}
}

// R1 and R5: what is asked twice is answered twice. R3: a schedule handed in stays as it was.

func TestAnyArguments(t *testing.T) {
	source := rand.New(rand.NewSource(10))
	number := func() int { return wild[source.Intn(len(wild))] }
	for range 20000 {
		z := api.Zone{Std: "STD", Off: number(), Has: source.Intn(4) > 0, Dst: "DST", Ahead: number(), From: api.Rule{Kind: source.Intn(4), Month: number(), Week: number(), Day: number(), At: number()}}
		z.To = z.From
		if source.Intn(2) == 0 {
			z = zoneOf(odd[source.Intn(len(odd))])
		}
		c := cronOf(schedules[source.Intn(len(schedules))])
		if source.Intn(3) == 0 {
			i := source.Intn(api.Fields)
			c.L[i] = append(c.L[i], number())
		}
		from, upto := number(), number()
		if source.Intn(2) == 0 {
			upto = from + source.Intn(3456002)
		}
		n, ok := Next(z, c, from, upto)
		again, okAgain := Next(z, c, from, upto)
		if n != again || ok != okAgain || ok && (n <= from || n > upto || !Fires(z, c, n)) || !ok && n != 0 {
			t.Fatalf("Next(%+v, %v, %d, %d) = %d, %t, and %d, %t", z, c, from, upto, n, ok, again, okAgain)
		}
		Gap(z, from)
	}
}

func TestArgumentsStayAsTheyWere(t *testing.T) {
	for _, text := range schedules {
		c, spare := cronOf(text), cronOf(text)
		for i := range c.L {
			// What lies behind a list's end is the caller's as well.
			c.L[i] = append(c.L[i], 99)[:len(c.L[i])]
		}
		Fires(cet(), c, 1711846800)
		Next(cet(), c, 1711846799, 1711846800+3000000)
		if !reflect.DeepEqual(c, spare) {
			t.Errorf("%s is %v now", text, c)
		}
		for i, l := range c.L {
			if l[:len(l)+1][len(l)] != 99 {
				t.Errorf("%s: behind list %d", text, i)
			}
		}
	}
}
