package local

import (
	"encoding/binary"
	"math"
	"math/rand"
	"slices"
	"sort"
	"testing"
	"time"

	"mailcoach/api"
	"mailcoach/stamp"
	"mailcoach/zone"
)

// wild holds numbers that no field of a rule, zone or day and time, and no year or second, should be undone by.
var wild = []int{math.MinInt, math.MinInt + 1, math.MinInt + 93599, -1 << 62, -93600, -3601, -1, 0, 1, 2, 5, 6, 7, 12, 13, 59, 60, 365, 366, 1959, 1960, 1969, 1970, 2024, 9998, 9999, 10000, 10010, 10011, 10400, 604799, 604800, api.MaxTime, api.MaxTime + 1, 1 << 62, math.MaxInt - 93599, math.MaxInt - 1, math.MaxInt}

func julian(day, at int) api.Rule { return api.Rule{Kind: api.Julian, Day: day, At: at} }

func zero(day, at int) api.Rule { return api.Rule{Kind: api.Zero, Day: day, At: at} }

func nth(month, week, day, at int) api.Rule {
	return api.Rule{Kind: api.Nth, Month: month, Week: week, Day: day, At: at}
}

func cet() api.Zone { return parse("CET-1CEST,M3.5.0,M10.5.0/3") }

func parse(s string) api.Zone {
	z, e := zone.Parse(s)
	if e != api.OK {
		panic(s)
	}
	return z
}

// usual holds zones that there are, or were: the library can tell their time.
var usual = []string{
	"UTC0",
	"<+0545>-5:45",
	"HST10",
	"CET-1CEST,M3.5.0,M10.5.0/3",
	"EST5EDT,M3.2.0,M11.1.0",
	"NZST-12NZDT,M9.5.0,M4.1.0/3",
	"IST-1GMT0,M10.5.0,M3.5.0/1",
	"<+1030>-10:30<+11>-11,M10.1.0,M4.1.0",
	"<-04>4<-03>,M9.1.6/24,M4.1.6/24",
	"<-02>2<-01>,M3.5.0/-1,M10.5.0/0",
	"EET-2EEST,M3.4.4/50,M10.4.4/50",
	"AAA3BBB,J59,J60/5",
	"AAA3BBB,59,60/5",
	"AAA-13:59:59BBB-15:00:01,M5.1.3,M5.5.4",
}

// odd holds zones whose turns lie outside of their years, meet, or lie one within another's skip.
var odd = []string{
	"AAA0BBB,J1/-167:59:59,365/167:59:59",
	"AAA0BBB,365/167:59:59,J1/-167:59:59",
	"AAA-24:59:59BBB,J1/-167:59:59,J365/167:59:59",
	"AAA24:59:59BBB,365/167:59:59,0/-167:59:59",
	"AAA24:59:59BBB-24:59:59,0/-167,100",
	"AAA-24:59:59BBB24:59:59,365/167,100/167:59:59",
	"AAA0BBB,J1/0,J1/1",                // they meet at once
	"AAA0BBB,J1/0,J1/1:00:01",          // summer time for a second
	"AAA0BBB,J1/1,J1/0",                // no summer time for an hour
	"AAA0BBB,J1/0,J1/0:59:59",          // the end is the one ahead
	"AAA0BBB,J1/0,365/24",              // the next beginning is an hour behind the end
	"AAA0BBB,J1/0,365/25",              // they meet, in common years
	"AAA0BBB,365/24,J1/1",              // they meet, in common years
	"AAA0BBB0,M3.5.0,M10.5.0",          // turns that change nothing
	"AAA0BBB-12,M3.5.0,M3.5.0/13",      // summer time of an hour
	"AAA0BBB-24,J60/0,J60/1",           // the end is ahead of the beginning
	"AAA-1BBB1,J60,59/-2",              // back first
	"AAA0BBB,M12.5.6/167,M1.1.0/-167",  // the end is in the year ahead
	"AAA0BBB,M2.5.4,M2.5.5/-24",        // the last Thursday of February, at times the fifth one
	"AAA-5BBB-5:00:01,J365/23,0/-0:30", // a second of summer time
	"AAA-13:59:59BBB,M2.5.3,M2.5.4",    // in some years the last Thursday is ahead of the last Wednesday
}

func zones() []api.Zone {
	var list []api.Zone
	for _, s := range slices.Concat(usual, odd) {
		list = append(list, parse(s))
	}
	return list
}

func anyRule(source *rand.Rand) api.Rule {
	at := source.Intn(2*604799+1) - 604799
	switch source.Intn(3) {
	case 0:
		return julian(1+source.Intn(365), at)
	case 1:
		return zero(source.Intn(366), at)
	}
	return nth(1+source.Intn(12), 1+source.Intn(5), source.Intn(7), at)
}

func anyZone(source *rand.Rand) api.Zone {
	off := source.Intn(2*89999+1) - 89999
	return api.Zone{Std: "STD", Off: off, Has: true, Dst: "DST", Ahead: source.Intn(2*89999+1) - 89999, From: anyRule(source), To: anyRule(source)}
}

func numberOf(day time.Time) int { return int(day.Unix() / 86400) }

// dayIn finds a rule's day by the library's calendar.
func dayIn(r api.Rule, y int) int {
	switch r.Kind {
	case api.Julian:
		// The day of the month is that of a year without a February 29.
		common := time.Date(2023, 1, r.Day, 0, 0, 0, 0, time.UTC)
		return numberOf(time.Date(y, common.Month(), common.Day(), 0, 0, 0, 0, time.UTC))
	case api.Zero:
		return numberOf(time.Date(y, 1, 1+r.Day, 0, 0, 0, 0, time.UTC))
	}
	var found []int
	for day := time.Date(y, time.Month(r.Month), 1, 0, 0, 0, 0, time.UTC); int(day.Month()) == r.Month; day = day.AddDate(0, 0, 1) {
		if int(day.Weekday()) == r.Day {
			found = append(found, numberOf(day))
		}
	}
	return found[min(r.Week, len(found))-1]
}

// clock is a zone with all its turns, as the library's calendar has them: what it answers is looked up among all of them.
type clock struct {
	z            api.Zone
	begins, ends []int
}

func newClock(z api.Zone) clock {
	c := clock{z: z}
	for y := 1960; z.Has && y <= 10010; y++ {
		c.begins = append(c.begins, dayIn(z.From, y)*86400+z.From.At-z.Off)
		c.ends = append(c.ends, dayIn(z.To, y)*86400+z.To.At-z.Ahead)
	}
	sort.Ints(c.begins)
	sort.Ints(c.ends)
	return c
}

func (c clock) off(t int) int {
	if !c.z.Has {
		return c.z.Off
	}
	last := func(l []int) int { return l[sort.SearchInts(l, t+1)-1] }
	if last(c.begins) > last(c.ends) {
		return c.z.Ahead
	}
	return c.z.Off
}

// seconds are those around turns of the first and last years and of some between, at the ends of what is asked, and some from anywhere.
func (c clock) seconds(source *rand.Rand) []int {
	list := []int{0, 1, 86399, 86400, api.MaxTime - 1, api.MaxTime}
	for _, turns := range [][]int{c.begins, c.ends} {
		for i, turn := range turns {
			if i < 150 || i > 8000 || i%13 == 0 {
				list = append(list, turn-1, turn, turn+1)
			}
		}
	}
	for range 2000 {
		list = append(list, source.Intn(api.MaxTime+1))
	}
	return slices.DeleteFunc(list, func(t int) bool { return t < 0 || t > api.MaxTime })
}

func civilOf(t time.Time) api.Civil {
	return api.Civil{Year: t.Year(), Month: int(t.Month()), Day: t.Day(), Hour: t.Hour(), Min: t.Minute(), Sec: t.Second()}
}

// P4.1

func TestDay(t *testing.T) {
	for _, x := range []struct {
		r    api.Rule
		y, n int
	}{
		{julian(1, 0), 1970, 0}, {julian(59, 0), 1970, 58}, {julian(60, 0), 1970, 59}, {julian(365, 0), 1970, 364},
		{julian(1, 0), 2024, 19723}, {julian(59, 0), 2024, 19781}, {julian(60, 0), 2024, 19783}, {julian(365, 0), 2024, 20088},
		{zero(0, 0), 1970, 0}, {zero(59, 0), 1970, 59}, {zero(364, 0), 1970, 364}, {zero(365, 0), 1970, 365},
		{zero(0, 0), 2024, 19723}, {zero(59, 0), 2024, 19782}, {zero(60, 0), 2024, 19783}, {zero(365, 0), 2024, 20088},
		{nth(1, 1, 4, 0), 1970, 0}, {nth(1, 5, 4, 0), 1970, 28}, {nth(1, 4, 3, 0), 1970, 27}, {nth(1, 5, 3, 0), 1970, 27},
		{nth(3, 5, 0, 0), 2024, 19813}, {nth(3, 4, 0, 0), 2024, 19806}, {nth(3, 1, 5, 0), 2024, 19783},
		// A February of four weeks, and one with a fifth Thursday.
		{nth(2, 5, 4, 0), 2023, 19411}, {nth(2, 4, 4, 0), 2023, 19411}, {nth(2, 5, 4, 0), 2024, 19782}, {nth(2, 4, 4, 0), 2024, 19775},
		// At counts for nothing here.
		{julian(1, 604799), 1970, 0}, {zero(0, -604799), 1970, 0}, {nth(1, 1, 4, 604799), 1970, 0},
		// The first and the last of a zone's years; 2000, 10000 and 10004 are leap years.
		{julian(1, 0), 1960, -3653}, {zero(365, 0), 1960, -3288}, {nth(12, 5, 6, 0), 1960, -3288},
		{julian(60, 0), 2000, 11017}, {julian(365, 0), 9999, 2932896}, {zero(365, 0), 9999, 2932897},
		{julian(1, 0), 10000, 2932897}, {julian(60, 0), 10000, 2932957}, {zero(59, 0), 10000, 2932956}, {nth(1, 1, 6, 0), 10000, 2932897}, {nth(2, 5, 2, 0), 10000, 2932956},
		{julian(60, 0), 10004, 2934418}, {julian(1, 0), 10010, 2936550}, {zero(365, 0), 10010, 2936915}, {nth(12, 5, 5, 0), 10010, 2936914},
	} {
		if n, e := Day(x.r, x.y); n != x.n || e != api.OK {
			t.Errorf("Day(%+v, %d) = %d, %d, want %d", x.r, x.y, n, e, x.n)
		}
	}
}

// Every rule there is, in years of all kinds: leap years and others, beginning with each day of the week, within the calendar and above it.
func TestEveryRuleOfAYear(t *testing.T) {
	rules := []api.Rule{zero(0, 0)}
	for day := 1; day <= 365; day++ {
		rules = append(rules, julian(day, 0), zero(day, 0))
	}
	for i := range 12 * 5 * 7 {
		rules = append(rules, nth(1+i/35, 1+i/7%5, i%7, 0))
	}
	years := []int{1960, 1961, 1999, 2000, 2001, 2099, 2100, 2101, 9996, 9998, 9999, 10000, 10001, 10002, 10003, 10004, 10005, 10006, 10007, 10008, 10009, 10010}
	for y := 2015; y <= 2043; y++ {
		years = append(years, y)
	}
	for _, y := range years {
		for _, r := range rules {
			if n, e := Day(r, y); n != dayIn(r, y) || e != api.OK {
				t.Errorf("Day(%+v, %d) = %d, %d, want %d", r, y, n, e, dayIn(r, y))
			}
		}
	}
}

func TestEveryYearOfARule(t *testing.T) {
	for _, r := range []api.Rule{julian(60, 0), zero(59, 0), zero(365, 0), nth(2, 5, 4, 0), nth(12, 5, 0, 0)} {
		for y := 1960; y <= 10010; y++ {
			if n, e := Day(r, y); n != dayIn(r, y) || e != api.OK {
				t.Fatalf("Day(%+v, %d) = %d, %d, want %d", r, y, n, e, dayIn(r, y))
			}
		}
	}
}

func TestDayOfNoYear(t *testing.T) {
	for _, y := range wild {
		if y >= 1960 && y <= 10010 {
			continue
		}
		for _, r := range []api.Rule{julian(1, 0), zero(0, 0), nth(1, 1, 0, 0), {Kind: -1}} {
			if n, e := Day(r, y); n != 0 || e != api.ErrArg {
				t.Errorf("Day(%+v, %d) = %d, %d, want ErrArg", r, y, n, e)
			}
		}
	}
}

func TestDayOfNoRule(t *testing.T) {
	for _, n := range wild {
		for i, r := range []api.Rule{
			julian(n, 0), zero(n, 0), nth(n, 1, 1, 0), nth(1, n, 1, 0), nth(1, 1, n, 0),
			julian(1, n), zero(1, n), nth(1, 1, 1, n), julian(1, -n), zero(1, -n), nth(1, 1, 1, -n),
			{Kind: n}, {Kind: n, Day: 1}, {Kind: n, Month: 1, Week: 1, Day: 1},
			{Kind: api.Julian, Month: n, Day: 1}, {Kind: api.Julian, Week: n, Day: 1},
			{Kind: api.Zero, Month: n, Day: 1}, {Kind: api.Zero, Week: n, Day: 1},
		} {
			z := cet()
			z.From = r
			want := api.ErrArg
			if zone.May(z) {
				want = api.OK
			}
			if got, e := Day(r, 2024); e != want || e != api.OK && got != 0 {
				t.Errorf("%d: Day(%+v, 2024) = %d, %d, want %d", i, r, got, e, want)
			}
		}
	}
	for i, r := range []api.Rule{julian(0, 0), julian(366, 0), zero(-1, 0), zero(366, 0), nth(0, 1, 1, 0), nth(13, 1, 1, 0), nth(1, 0, 1, 0), nth(1, 6, 1, 0), nth(1, 1, -1, 0), nth(1, 1, 7, 0), zero(0, 604800), zero(0, -604800), {Kind: api.Rules}, {Kind: -1}, {}} {
		if got, e := Day(r, 2024); got != 0 || e != api.ErrArg {
			t.Errorf("%d: Day(%+v, 2024) = %d, %d, want ErrArg", i, r, got, e)
		}
	}
}

// P4.2

func TestTurns(t *testing.T) {
	for _, x := range []struct {
		s             string
		y, from, upto int
	}{
		{"CET-1CEST,M3.5.0,M10.5.0/3", 2024, 1711846800, 1729990800},
		{"CET-1CEST,M3.5.0,M10.5.0/3", 2025, 1743296400, 1761440400},
		{"EST5EDT,M3.2.0,M11.1.0", 2024, 1710054000, 1730613600},
		{"NZST-12NZDT,M9.5.0,M4.1.0/3", 2024, 1727532000, 1712412000},
		{"IST-1GMT0,M10.5.0,M3.5.0/1", 2024, 1729990800, 1711846800},
		{"AAA0BBB,J1/0,J1/1", 1970, 0, 0},
		{"AAA0BBB,0/0,365/0", 1970, 0, 31536000 - 3600},
		{"AAA-24:59:59BBB,0/-167:59:59,0/167:59:59", 1970, -604799 - 89999, 604799 - 93599},
		{"AAA24:59:59BBB,0/-167:59:59,0/167:59:59", 1970, -604799 + 89999, 604799 + 86399},
		{"AAA0BBB,0/0,365/1", 1960, -315619200, -284083200},
		{"AAA0BBB,0/0,365/1", 10010, 253717920000, 253749456000},
	} {
		if from, upto, e := Turns(parse(x.s), x.y); from != x.from || upto != x.upto || e != api.OK {
			t.Errorf("Turns(%s, %d) = %d, %d, %d, want %d, %d", x.s, x.y, from, upto, e, x.from, x.upto)
		}
	}
}

func TestTurnsOfEveryYear(t *testing.T) {
	for _, z := range zones() {
		for y := 1960; z.Has && y <= 10010; y++ {
			from, upto, e := Turns(z, y)
			if from != dayIn(z.From, y)*86400+z.From.At-z.Off || upto != dayIn(z.To, y)*86400+z.To.At-z.Ahead || e != api.OK {
				t.Fatalf("Turns(%+v, %d) = %d, %d, %d", z, y, from, upto, e)
			}
		}
	}
}

func TestTurnsOfNone(t *testing.T) {
	wantNone := func(z api.Zone, y int) {
		t.Helper()
		if from, upto, e := Turns(z, y); from != 0 || upto != 0 || e != api.ErrArg {
			t.Errorf("Turns(%+v, %d) = %d, %d, %d, want ErrArg", z, y, from, upto, e)
		}
	}
	for _, y := range wild {
		if y < 1960 || y > 10010 {
			wantNone(cet(), y)
		}
		wantNone(parse("UTC0"), y)
		for _, z := range noZones() {
			wantNone(z, y)
		}
	}
}

// noZones are wrong in one field each.
func noZones() []api.Zone {
	list := []api.Zone{{}, {Has: true}, {Std: "UTC", Has: true}, {Std: "UTC", Dst: "DST"}, {Std: "UTC", Ahead: 1}, {Std: "UTC", From: zero(1, 0)}, {Std: "UTC", To: julian(1, 0)}}
	for _, spoil := range []func(z *api.Zone){
		func(z *api.Zone) { z.Std = "" },
		func(z *api.Zone) { z.Dst = "DS" },
		func(z *api.Zone) { z.Off = 90000 },
		func(z *api.Zone) { z.Off = math.MinInt },
		func(z *api.Zone) { z.Ahead = -90000 },
		func(z *api.Zone) { z.Ahead = math.MaxInt },
		func(z *api.Zone) { z.Has = false },
		func(z *api.Zone) { z.From.Day = 7 },
		func(z *api.Zone) { z.From.Month = math.MaxInt },
		func(z *api.Zone) { z.To.Kind = 3 },
		func(z *api.Zone) { z.To.At = 604800 },
		func(z *api.Zone) { z.To.Week = math.MinInt },
	} {
		z := cet()
		spoil(&z)
		list = append(list, z)
	}
	return list
}

// P4.3

func TestOff(t *testing.T) {
	for _, x := range []struct {
		s         string
		t, offset int
	}{
		{"UTC0", 0, 0}, {"UTC0", api.MaxTime, 0}, {"ABC-24:59:59", 0, 89999}, {"ABC24:59:59", api.MaxTime, -89999},
		{"CET-1CEST,M3.5.0,M10.5.0/3", 0, 3600}, {"CET-1CEST,M3.5.0,M10.5.0/3", api.MaxTime, 3600},
		{"CET-1CEST,M3.5.0,M10.5.0/3", 1711846799, 3600}, {"CET-1CEST,M3.5.0,M10.5.0/3", 1711846800, 7200},
		{"CET-1CEST,M3.5.0,M10.5.0/3", 1729990799, 7200}, {"CET-1CEST,M3.5.0,M10.5.0/3", 1729990800, 3600},
		// South of the equator the years begin, and end, in summer.
		{"NZST-12NZDT,M9.5.0,M4.1.0/3", 0, 46800}, {"NZST-12NZDT,M9.5.0,M4.1.0/3", api.MaxTime, 46800},
		{"NZST-12NZDT,M9.5.0,M4.1.0/3", 1712411999, 46800}, {"NZST-12NZDT,M9.5.0,M4.1.0/3", 1712412000, 43200},
		{"NZST-12NZDT,M9.5.0,M4.1.0/3", 1727531999, 43200}, {"NZST-12NZDT,M9.5.0,M4.1.0/3", 1727532000, 46800},
		// Summer time that puts the clock back.
		{"IST-1GMT0,M10.5.0,M3.5.0/1", 1729990799, 3600}, {"IST-1GMT0,M10.5.0,M3.5.0/1", 1729990800, 0},
		// A beginning that is not above the end makes no summer time.
		{"AAA0BBB,J1/0,J1/1", 0, 0}, {"AAA0BBB,J1/0,J1/1", 1, 0}, {"AAA0BBB,J1/0,J1/1", 1704067200, 0},
		{"AAA0BBB,J1/0,J1/1:00:01", 1704067200, 3600}, {"AAA0BBB,J1/0,J1/1:00:01", 1704067201, 0},
		{"AAA0BBB,J1/0,J1/0:59:59", 1704067198, 3600}, {"AAA0BBB,J1/0,J1/0:59:59", 1704067199, 0}, {"AAA0BBB,J1/0,J1/0:59:59", 1704067200, 3600},
		// Turns outside of their years: that of 2024 is in 2023, that of 2023 in 2024.
		{"AAA0BBB,J1/-167:59:59,365/167:59:59", 1703462400, 0}, {"AAA0BBB,J1/-167:59:59,365/167:59:59", 1703462401, 3600},
		{"AAA0BBB,J1/-167:59:59,365/167:59:59", 1704668398, 3600}, {"AAA0BBB,J1/-167:59:59,365/167:59:59", 1704668399, 0},
		{"AAA0BBB,365/167:59:59,J1/-167:59:59", 1703458800, 3600}, {"AAA0BBB,365/167:59:59,J1/-167:59:59", 1703458801, 0},
		{"AAA0BBB,365/167:59:59,J1/-167:59:59", 1704671998, 0}, {"AAA0BBB,365/167:59:59,J1/-167:59:59", 1704671999, 3600},
		{"AAA0BBB,J1/-167,J365/-167", 1703465999, 0}, {"AAA0BBB,J1/-167,J365/-167", 1703466000, 3600},
		{"AAA0BBB,M1.2.1,J365/167", 1704578399, 3600}, {"AAA0BBB,M1.2.1,J365/167", 1704578400, 0},
		{"AAA0BBB,M1.2.1,J365/167", 1704679199, 0}, {"AAA0BBB,M1.2.1,J365/167", 1704679200, 3600},
		// In 1973 the last Thursday of February was ahead of the last Wednesday: summer time went on up to the end of 1974.
		{"AAA-13:59:59BBB,M2.5.3,M2.5.4", 99662400, 50399}, {"AAA-13:59:59BBB,M2.5.3,M2.5.4", 99662401, 53999},
		{"AAA-13:59:59BBB,M2.5.3,M2.5.4", 131194800, 53999}, {"AAA-13:59:59BBB,M2.5.3,M2.5.4", 131194801, 50399},
	} {
		if got, e := Off(parse(x.s), x.t); got != x.offset || e != api.OK {
			t.Errorf("Off(%s, %d) = %d, %d, want %d", x.s, x.t, got, e, x.offset)
		}
	}
}

// The library's own reading of a zone's text: it stands behind a table of turns that has none.
func location(t *testing.T, s string) *time.Location {
	t.Helper()
	head := append([]byte("TZif2"), make([]byte, 15)...)
	data := append(slices.Clone(head), make([]byte, 24)...)
	data = append(data, head...)
	for _, n := range []uint32{0, 0, 0, 0, 1, 4} {
		data = binary.BigEndian.AppendUint32(data, n)
	}
	data = append(data, make([]byte, 6)...)
	data = append(data, "UTC\x00\n"+s+"\n"...)
	place, err := time.LoadLocationFromTZData(s, data)
	if err != nil {
		t.Fatal(s, err)
	}
	return place
}

func TestOffAndAtOfZonesThatTheLibraryKnows(t *testing.T) {
	source := rand.New(rand.NewSource(6))
	for _, s := range usual {
		c, place := newClock(parse(s)), location(t, s)
		turned := 0
		for _, second := range c.seconds(source) {
			there := time.Unix(int64(second), 0).In(place)
			_, want := there.Zone()
			if got, e := Off(c.z, second); got != want || e != api.OK {
				t.Fatalf("Off(%s, %d) = %d, %d, want %d", s, second, got, e, want)
			}
			if want != c.z.Off {
				turned++
			}
			if there.Year() > 9999 {
				continue
			}
			if got, e := At(c.z, second); got != civilOf(there) || e != api.OK {
				t.Fatalf("At(%s, %d) = %+v, %d, want %+v", s, second, got, e, civilOf(there))
			}
		}
		if c.z.Has && turned == 0 {
			t.Errorf("%s: no summer time", s)
		}
	}
}

func TestOffAmongAllTurns(t *testing.T) {
	source := rand.New(rand.NewSource(7))
	list := zones()
	for range 12 {
		list = append(list, anyZone(source))
	}
	for _, z := range list {
		c := newClock(z)
		for _, second := range c.seconds(source) {
			if got, e := Off(z, second); got != c.off(second) || e != api.OK {
				t.Fatalf("Off(%+v, %d) = %d, %d, want %d", z, second, got, e, c.off(second))
			}
		}
	}
}

func TestOffAndAtOfNone(t *testing.T) {
	wantNone := func(z api.Zone, second int) {
		t.Helper()
		if n, e := Off(z, second); n != 0 || e != api.ErrArg {
			t.Errorf("Off(%+v, %d) = %d, %d, want ErrArg", z, second, n, e)
		}
		if c, e := At(z, second); c != (api.Civil{}) || e != api.ErrArg {
			t.Errorf("At(%+v, %d) = %+v, %d, want ErrArg", z, second, c, e)
		}
	}
	for _, second := range wild {
		if second < 0 || second > api.MaxTime {
			wantNone(cet(), second)
			wantNone(parse("UTC0"), second)
		}
		for _, z := range noZones() {
			wantNone(z, second)
		}
	}
}

// P4.4

func TestAt(t *testing.T) {
	for _, x := range []struct {
		s      string
		second int
		c      api.Civil
	}{
		{"UTC0", 0, api.Civil{Year: 1970, Month: 1, Day: 1}},
		{"UTC0", api.MaxTime, api.Civil{Year: 9999, Month: 12, Day: 31, Hour: 23, Min: 59, Sec: 59}},
		{"HST10", 0, api.Civil{Year: 1969, Month: 12, Day: 31, Hour: 14}},
		{"ABC24:59:59", 0, api.Civil{Year: 1969, Month: 12, Day: 30, Hour: 23, Sec: 1}},
		{"ABC0:00:01", api.MaxTime, api.Civil{Year: 9999, Month: 12, Day: 31, Hour: 23, Min: 59, Sec: 58}},
		{"ABC-0:00:01", api.MaxTime - 1, api.Civil{Year: 9999, Month: 12, Day: 31, Hour: 23, Min: 59, Sec: 59}},
		{"CET-1CEST,M3.5.0,M10.5.0/3", 1711846799, api.Civil{Year: 2024, Month: 3, Day: 31, Hour: 1, Min: 59, Sec: 59}},
		{"CET-1CEST,M3.5.0,M10.5.0/3", 1711846800, api.Civil{Year: 2024, Month: 3, Day: 31, Hour: 3}},
		{"CET-1CEST,M3.5.0,M10.5.0/3", 1729990799, api.Civil{Year: 2024, Month: 10, Day: 27, Hour: 2, Min: 59, Sec: 59}},
		{"CET-1CEST,M3.5.0,M10.5.0/3", 1729990800, api.Civil{Year: 2024, Month: 10, Day: 27, Hour: 2}},
	} {
		if got, e := At(parse(x.s), x.second); got != x.c || e != api.OK {
			t.Errorf("At(%s, %d) = %+v, %d, want %+v", x.s, x.second, got, e, x.c)
		}
	}
}

// A second may have an Off, but no day and time there: the calendar ends ahead of it.
func TestAtBehindTheCalendar(t *testing.T) {
	for _, x := range []struct {
		s      string
		second int
	}{{"ABC-0:00:01", api.MaxTime}, {"CET-1CEST,M3.5.0,M10.5.0/3", api.MaxTime - 3599}, {"NZST-12NZDT,M9.5.0,M4.1.0/3", api.MaxTime - 46799}, {"ABC-24:59:59", api.MaxTime - 89998}} {
		if _, e := Off(parse(x.s), x.second); e != api.OK {
			t.Errorf("Off(%s, %d): %d", x.s, x.second, e)
		}
		if c, e := At(parse(x.s), x.second); c != (api.Civil{}) || e != api.ErrArg {
			t.Errorf("At(%s, %d) = %+v, %d, want ErrArg", x.s, x.second, c, e)
		}
		if c, e := At(parse(x.s), x.second-1); c != (api.Civil{Year: 9999, Month: 12, Day: 31, Hour: 23, Min: 59, Sec: 59}) || e != api.OK {
			t.Errorf("At(%s, %d) = %+v, %d", x.s, x.second-1, c, e)
		}
	}
}

func TestOf(t *testing.T) {
	day := func(month, day, hour, minute, second int) api.Civil {
		return api.Civil{Year: 2024, Month: month, Day: day, Hour: hour, Min: minute, Sec: second}
	}
	first, last := api.Civil{Year: 1970, Month: 1, Day: 1}, api.Civil{Year: 9998, Month: 12, Day: 31, Hour: 23, Min: 59, Sec: 59}
	const lastSecond = api.MaxTime - 365*86400
	for _, x := range []struct {
		s    string
		c    api.Civil
		want []int
	}{
		{"CET-1CEST,M3.5.0,M10.5.0/3", day(10, 27, 2, 30, 0), []int{1729989000, 1729992600}},
		{"CET-1CEST,M3.5.0,M10.5.0/3", day(10, 27, 1, 59, 59), []int{1729987199}},
		{"CET-1CEST,M3.5.0,M10.5.0/3", day(10, 27, 2, 0, 0), []int{1729987200, 1729990800}},
		{"CET-1CEST,M3.5.0,M10.5.0/3", day(10, 27, 2, 59, 59), []int{1729990799, 1729994399}},
		{"CET-1CEST,M3.5.0,M10.5.0/3", day(10, 27, 3, 0, 0), []int{1729994400}},
		{"CET-1CEST,M3.5.0,M10.5.0/3", day(3, 31, 1, 59, 59), []int{1711846799}},
		{"CET-1CEST,M3.5.0,M10.5.0/3", day(3, 31, 2, 0, 0), nil},
		{"CET-1CEST,M3.5.0,M10.5.0/3", day(3, 31, 2, 30, 0), nil},
		{"CET-1CEST,M3.5.0,M10.5.0/3", day(3, 31, 2, 59, 59), nil},
		{"CET-1CEST,M3.5.0,M10.5.0/3", day(3, 31, 3, 0, 0), []int{1711846800}},
		// Where summer time puts the clock back, its beginning is what comes twice.
		{"IST-1GMT0,M10.5.0,M3.5.0/1", day(10, 27, 1, 30, 0), []int{1729989000, 1729992600}},
		{"IST-1GMT0,M10.5.0,M3.5.0/1", day(3, 31, 1, 30, 0), nil},
		{"AAA0BBB0,M3.5.0,M10.5.0", day(10, 27, 1, 30, 0), []int{1729992600}},
		{"UTC0", day(2, 29, 12, 0, 0), []int{1709208000}},
		// Seconds below 0 are none.
		{"UTC0", first, []int{0}},
		{"ABC-0:00:01", first, nil},
		{"CET-1CEST,M3.5.0,M10.5.0/3", first, nil},
		{"CET-1CEST,M3.5.0,M10.5.0/3", api.Civil{Year: 1970, Month: 1, Day: 1, Min: 59, Sec: 59}, nil},
		{"CET-1CEST,M3.5.0,M10.5.0/3", api.Civil{Year: 1970, Month: 1, Day: 1, Hour: 1}, []int{0}},
		{"HST10", first, []int{36000}},
		// It comes twice, but the first time ahead of 1970.
		{"AAA0BBB,M3.5.0,0/1", api.Civil{Year: 1970, Month: 1, Day: 1, Min: 30}, []int{1800}},
		// The last year's end.
		{"UTC0", last, []int{lastSecond}},
		{"ABC24:59:59", last, []int{lastSecond + 89999}},
		{"NZST-12NZDT,M9.5.0,M4.1.0/3", last, []int{lastSecond - 46800}},
	} {
		if got, e := Of(parse(x.s), x.c); !slices.Equal(got, x.want) || e != api.OK {
			t.Errorf("Of(%s, %+v) = %v, %d, want %v", x.s, x.c, got, e, x.want)
		}
	}
}

func TestOfNone(t *testing.T) {
	wantNone := func(z api.Zone, c api.Civil) {
		t.Helper()
		if l, e := Of(z, c); len(l) != 0 || e != api.ErrArg {
			t.Errorf("Of(%+v, %+v) = %v, %d, want ErrArg", z, c, l, e)
		}
	}
	good := api.Civil{Year: 2024, Month: 2, Day: 29, Hour: 12}
	for _, z := range noZones() {
		wantNone(z, good)
	}
	for _, z := range []api.Zone{cet(), parse("UTC0"), parse("HST10")} {
		for _, c := range []api.Civil{
			{}, {Year: 2024}, {Year: 2023, Month: 2, Day: 29}, {Year: 2024, Month: 13, Day: 1}, {Year: 2024, Month: 4, Day: 31},
			{Year: 2024, Month: 1, Day: 1, Hour: 24}, {Year: 2024, Month: 1, Day: 1, Min: 60}, {Year: 2024, Month: 1, Day: 1, Sec: 60}, {Year: 2024, Month: 1, Day: 1, Sec: -1},
			{Year: 1969, Month: 12, Day: 31, Hour: 23, Min: 59, Sec: 59}, {Year: 9999, Month: 1, Day: 1}, {Year: 1, Month: 1, Day: 1}, {Year: 9999, Month: 12, Day: 31, Hour: 23},
		} {
			wantNone(z, c)
		}
		for _, n := range wild {
			for i, field := range []func(c *api.Civil){
				func(c *api.Civil) { c.Year = n },
				func(c *api.Civil) { c.Month = n },
				func(c *api.Civil) { c.Day = n },
				func(c *api.Civil) { c.Hour = n },
				func(c *api.Civil) { c.Min = n },
				func(c *api.Civil) { c.Sec = n },
			} {
				c := good
				field(&c)
				if !stamp.May(c) || c.Year < 1970 || c.Year > 9998 {
					wantNone(z, c)
				} else if _, e := Of(z, c); e != api.OK {
					t.Errorf("%d: Of(%+v): %d", i, c, e)
				}
			}
		}
	}
}

// Around turns every second is gone through: the day and time that At answers must have just those seconds.
func TestOfIsAllSecondsWithThatAt(t *testing.T) {
	for _, z := range []api.Zone{
		cet(), parse("NZST-12NZDT,M9.5.0,M4.1.0/3"), parse("IST-1GMT0,M10.5.0,M3.5.0/1"), parse("UTC0"),
		parse("AAA0BBB,J1/1,J1/0"), parse("AAA0BBB,J1/0,J1/1:00:01"), parse("AAA0BBB-12,M3.5.0,M3.5.0/13"), parse("AAA0BBB-24,J60/0,J60/1"), parse("AAA-1BBB1,J60,59/-2"),
		parse("AAA24:59:59BBB-24:59:59,0/-167,100"), parse("AAA-24:59:59BBB24:59:59,365/167,100/167:59:59"), parse("AAA0BBB,J1/0,365/24"),
	} {
		c := newClock(z)
		turns := []int{0, 1711846800}
		if z.Has {
			turns = []int{0, c.begins[64], c.ends[64]}
		}
		for _, turn := range turns {
			wantSecondsAround(t, c, turn)
		}
	}
}

func wantSecondsAround(t *testing.T, c clock, turn int) {
	t.Helper()
	const inner = 30000
	// A second that has one of the inner days and times is no further off than by what summer time makes.
	outer := inner
	if c.z.Has {
		outer += max(c.z.Ahead-c.z.Off, c.z.Off-c.z.Ahead)
	}
	shown := map[int][]int{}
	for second := max(0, turn-outer); second <= turn+outer; second++ {
		shown[second+c.off(second)] = append(shown[second+c.off(second)], second)
	}
	for wall := turn + c.z.Off - inner; wall <= turn+c.z.Off+inner; wall += 7 {
		there := civilOf(time.Unix(int64(wall), 0).UTC())
		if there.Year < 1970 {
			continue
		}
		if got, e := Of(c.z, there); !slices.Equal(got, shown[wall]) || e != api.OK {
			t.Fatalf("Of(%+v, %+v) = %v, %d, want %v", c.z, there, got, e, shown[wall])
		}
	}
}

// P4.5

func TestASecondIsOneOfItsDayAndTime(t *testing.T) {
	source := rand.New(rand.NewSource(8))
	list := zones()
	for range 12 {
		list = append(list, anyZone(source))
	}
	for _, z := range list {
		twice := 0
		for _, second := range newClock(z).seconds(source) {
			there, e := At(z, second)
			if e != api.OK || there.Year < 1970 || there.Year > 9998 {
				continue
			}
			all, e := Of(z, there)
			if e != api.OK || !slices.Contains(all, second) || len(all) > 2 || !slices.IsSorted(all) {
				t.Fatalf("At(%+v, %d) = %+v, whose Of is %v, %d", z, second, there, all, e)
			}
			if len(all) == 2 {
				twice++
				if all[0] == all[1] {
					t.Fatalf("Of(%+v, %+v) = %v", z, there, all)
				}
			}
		}
		if z == cet() && twice == 0 {
			t.Error("nothing comes twice")
		}
	}
}

// P1, R3, R5

func TestAnyArguments(t *testing.T) {
	for _, n := range wild {
		for _, m := range wild {
			for _, r := range []api.Rule{{Kind: n, Day: m}, julian(n, m), zero(n, m), nth(n, m, 1, 0), nth(1, n, m, 0), nth(n, 1, 1, m)} {
				z := api.Zone{Std: "STD", Off: n, Has: true, Dst: "DST", Ahead: m, From: r, To: r}
				Day(r, m)
				Turns(z, m)
				Off(z, m)
				At(z, m)
				Of(z, api.Civil{Year: n, Month: m, Day: n, Hour: m, Min: n, Sec: m})
			}
		}
	}
}

func TestAnswersAreTheCallersOwn(t *testing.T) {
	c := api.Civil{Year: 2024, Month: 10, Day: 27, Hour: 2, Min: 30}
	want := []int{1729989000, 1729992600}
	for range 2 {
		got, e := Of(cet(), c)
		if !slices.Equal(got, want) || e != api.OK {
			t.Fatalf("Of = %v, %d, want %v", got, e, want)
		}
		got[0], got[1] = 0, 0
	}
}
