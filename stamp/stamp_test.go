package stamp

import (
	"math"
	"math/rand"
	"strings"
	"testing"
	"time"

	"mailcoach/api"
)

const (
	firstSecond = -62135596800 // 0001-01-01T00:00:00Z
	lastSecond  = api.MaxTime  // 9999-12-31T23:59:59Z
)

// wild holds numbers that no second, and no part of a day and time, should be undone by.
var wild = []int{math.MinInt, math.MinInt + 1, math.MinInt + 93599, -1 << 62, firstSecond - 1, -86401, -60, -1, 0, 1, 12, 13, 23, 24, 28, 29, 30, 31, 32, 59, 60, 1970, 9999, 10000, lastSecond + 1, 1 << 62, math.MaxInt - 93599, math.MaxInt - 1, math.MaxInt}

// seconds holds the edges of the calendar's days, and some from all over it.
func seconds() []int {
	list := []int{firstSecond, firstSecond + 1, firstSecond + 86399, firstSecond + 86400, -86401, -86400, -86399, -3601, -3600, -61, -60, -59, -1, 0, 1, 59, 60, 61, 3599, 3600, 86399, 86400, 951782399, 951782400, 951868799, 951868800, lastSecond - 86400, lastSecond - 86399, lastSecond - 1, lastSecond}
	source := rand.New(rand.NewSource(2))
	for range 20000 {
		list = append(list, firstSecond+int(source.Int63n(lastSecond-firstSecond+1)))
	}
	return list
}

func civilOf(t time.Time) api.Civil {
	return api.Civil{Year: t.Year(), Month: int(t.Month()), Day: t.Day(), Hour: t.Hour(), Min: t.Minute(), Sec: t.Second()}
}

// P2.1

func TestMay(t *testing.T) {
	good := api.Civil{Year: 2000, Month: 2, Day: 29, Hour: 23, Min: 59, Sec: 59}
	for i, x := range []struct {
		c    api.Civil
		want bool
	}{
		{good, true},
		{api.Civil{Year: 1, Month: 1, Day: 1}, true},
		{api.Civil{Year: 9999, Month: 12, Day: 31, Hour: 23, Min: 59, Sec: 59}, true},
		{api.Civil{}, false},
		{api.Civil{Year: 0, Month: 12, Day: 31}, false},
		{api.Civil{Year: 10000, Month: 1, Day: 1}, false},
		{api.Civil{Year: 2001, Month: 2, Day: 29}, false},
		{api.Civil{Year: 1900, Month: 2, Day: 29}, false},
		{api.Civil{Year: 2000, Month: 0, Day: 1}, false},
		{api.Civil{Year: 2000, Month: 13, Day: 1}, false},
		{api.Civil{Year: 2000, Month: 4, Day: 0}, false},
		{api.Civil{Year: 2000, Month: 4, Day: 31}, false},
		{api.Civil{Year: 2000, Month: 4, Day: 30, Hour: 24}, false},
		{api.Civil{Year: 2000, Month: 4, Day: 30, Hour: -1}, false},
		{api.Civil{Year: 2000, Month: 4, Day: 30, Min: 60}, false},
		{api.Civil{Year: 2000, Month: 4, Day: 30, Min: -1}, false},
		{api.Civil{Year: 2000, Month: 4, Day: 30, Sec: 60}, false},
		{api.Civil{Year: 2000, Month: 4, Day: 30, Sec: -1}, false},
	} {
		if got := May(x.c); got != x.want {
			t.Errorf("%d: May(%v) = %v, want %v", i, x.c, got, x.want)
		}
		n, e := Of(x.c)
		if x.want != (e == api.OK) || !x.want && (n != 0 || e != api.ErrArg) {
			t.Errorf("%d: Of(%v) = %d, %d", i, x.c, n, e)
		}
	}
}

func TestMayWithWildNumbers(t *testing.T) {
	for _, n := range wild {
		for i, x := range []struct {
			c    api.Civil
			want bool
		}{
			{api.Civil{Year: n, Month: 1, Day: 1}, n >= 1 && n <= 9999},
			{api.Civil{Year: 2000, Month: n, Day: 1}, n >= 1 && n <= 12},
			{api.Civil{Year: 2000, Month: 1, Day: n}, n >= 1 && n <= 31},
			{api.Civil{Year: 2000, Month: 1, Day: 1, Hour: n}, n >= 0 && n <= 23},
			{api.Civil{Year: 2000, Month: 1, Day: 1, Min: n}, n >= 0 && n <= 59},
			{api.Civil{Year: 2000, Month: 1, Day: 1, Sec: n}, n >= 0 && n <= 59},
		} {
			if got := May(x.c); got != x.want {
				t.Errorf("%d: May(%v) = %v, want %v", i, x.c, got, x.want)
			}
			s, e := Of(x.c)
			if x.want != (e == api.OK) || !x.want && (s != 0 || e != api.ErrArg) {
				t.Errorf("%d: Of(%v) = %d, %d", i, x.c, s, e)
			}
		}
	}
}

func TestOfAndAt(t *testing.T) {
	for _, x := range []struct {
		c api.Civil
		n int
	}{
		{api.Civil{Year: 1970, Month: 1, Day: 1}, 0},
		{api.Civil{Year: 1970, Month: 1, Day: 2, Hour: 3, Min: 4, Sec: 5}, 97445},
		{api.Civil{Year: 1969, Month: 12, Day: 31, Hour: 23, Min: 59, Sec: 59}, -1},
		{api.Civil{Year: 1969, Month: 12, Day: 31}, -86400},
		{api.Civil{Year: 1969, Month: 12, Day: 30, Hour: 23, Min: 59, Sec: 59}, -86401},
		{api.Civil{Year: 2000, Month: 2, Day: 29}, 951782400},
		{api.Civil{Year: 1, Month: 1, Day: 1}, firstSecond},
		{api.Civil{Year: 9999, Month: 12, Day: 31, Hour: 23, Min: 59, Sec: 59}, lastSecond},
	} {
		if n, e := Of(x.c); n != x.n || e != api.OK {
			t.Errorf("Of(%v) = %d, %d, want %d", x.c, n, e, x.n)
		}
		if c, e := At(x.n); c != x.c || e != api.OK {
			t.Errorf("At(%d) = %v, %d, want %v", x.n, c, e, x.c)
		}
	}
}

func TestAtAsTheLibraryHasIt(t *testing.T) {
	for _, n := range seconds() {
		want := civilOf(time.Unix(int64(n), 0).UTC())
		if c, e := At(n); c != want || e != api.OK {
			t.Fatalf("At(%d) = %v, %d, want %v", n, c, e, want)
		}
		if back, e := Of(want); back != n || e != api.OK {
			t.Fatalf("Of(%v) = %d, %d, want %d", want, back, e, n)
		}
	}
}

func TestAtOfNoDay(t *testing.T) {
	for _, n := range wild {
		c, e := At(n)
		if n >= firstSecond && n <= lastSecond {
			if e != api.OK {
				t.Errorf("At(%d): %d", n, e)
			}
		} else if c != (api.Civil{}) || e != api.ErrArg {
			t.Errorf("At(%d) = %v, %d, want noughts and ErrArg", n, c, e)
		}
	}
}

// P2.2

func TestText(t *testing.T) {
	for _, x := range []struct {
		n int
		s string
	}{
		{0, "1970-01-01T00:00:00Z"},
		{-1, "1969-12-31T23:59:59Z"},
		{951782400, "2000-02-29T00:00:00Z"},
		{97445, "1970-01-02T03:04:05Z"},
		{firstSecond, "0001-01-01T00:00:00Z"},
		{firstSecond + 36158*86400, "0099-12-31T00:00:00Z"},
		{lastSecond, "9999-12-31T23:59:59Z"},
	} {
		if s, e := Text(x.n); s != x.s || e != api.OK {
			t.Errorf("Text(%d) = %q, %d, want %q", x.n, s, e, x.s)
		}
	}
}

func TestTextOfNoDay(t *testing.T) {
	for _, n := range wild {
		if n >= firstSecond && n <= lastSecond {
			continue
		}
		if s, e := Text(n); s != "" || e != api.ErrArg {
			t.Errorf("Text(%d) = %q, %d, want ErrArg", n, s, e)
		}
	}
}

func TestParse(t *testing.T) {
	for s, want := range map[string]int{
		"1970-01-01T00:00:00Z":                          0,
		"1970-01-01t00:00:00z":                          0,
		"1970-01-01T00:00:00.0Z":                        0,
		"1970-01-01T00:00:00.999z":                      0,
		"1970-01-01T00:00:59.123456789012345678901234Z": 59,
		"1969-12-31T23:59:59.9Z":                        -1,
		"1970-01-01t01:00:00+01:00":                     0,
		"1970-01-01T00:00:00-00:30":                     1800,
		"1970-01-01T00:00:00+00:00":                     0,
		"1970-01-01T00:00:00-00:00":                     0,
		"1970-01-01T00:00:00+23:59":                     -86340,
		"1970-01-01T00:00:00-23:59":                     86340,
		"1970-01-01T00:00:00.5+05:45":                   -20700,
		"2000-02-29T01:00:00+01:00":                     951782400,
		"0001-01-01T00:00:00Z":                          firstSecond,
		"9999-12-31T23:59:59Z":                          lastSecond,
		// Those beyond the calendar's edges have no day and time of their own, but they are bounded by nothing.
		"0001-01-01T00:00:00+00:01": firstSecond - 60,
		"9999-12-31T23:59:59-23:59": lastSecond + 86340,
	} {
		if n, e := Parse(s); n != want || e != api.OK {
			t.Errorf("Parse(%q) = %d, %d, want %d", s, n, e, want)
		}
	}
}

func TestParseOfAnotherForm(t *testing.T) {
	long := strings.Repeat("9", 100000)
	for _, s := range []string{
		"", " ", "Z", "T", "1970", "1970-01-01", "1970-01-01T", "1970-01-01T00:00:00", "1970-01-01T00:00:00.", "1970-01-01T00:00:00.5",
		"1970-01-01 00:00:00Z", "1970-01-01_00:00:00Z", "1970/01/01T00:00:00Z", "1970-01-01T00.00.00Z", "1970-01-01T00:00Z", "19700101T000000Z",
		"197-01-01T00:00:00Z", "01970-01-01T00:00:00Z", "1970-1-01T00:00:00Z", "1970-01-1T00:00:00Z", "1970-01-01T0:00:00Z", "1970-01-01T00:0:00Z", "1970-01-01T00:00:0Z", "1970-001-01T00:00:00Z",
		"-970-01-01T00:00:00Z", "+970-01-01T00:00:00Z", "1970-+1-01T00:00:00Z", "1970-01- 1T00:00:00Z", "19a0-01-01T00:00:00Z", "1970-0x-01T00:00:00Z", "1970-01-01T00:00:0/Z", "1970-01-01T00:00:0:Z", "١٩٧٠-01-01T00:00:00Z",
		"0000-01-01T00:00:00Z", "1970-00-01T00:00:00Z", "1970-13-01T00:00:00Z", "1970-01-00T00:00:00Z", "1970-01-32T00:00:00Z", "1900-02-29T00:00:00Z", "2001-02-29T00:00:00Z", "2024-04-31T00:00:00Z",
		"1970-01-01T24:00:00Z", "1970-01-01T00:60:00Z", "1970-01-01T00:00:60Z", "1970-01-01T99:99:99Z",
		"1970-01-01T00:00:00.Z", "1970-01-01T00:00:00..5Z", "1970-01-01T00:00:00.5.5Z", "1970-01-01T00:00:00,5Z", "1970-01-01T00:00:00.aZ", "1970-01-01T00:00:00.5aZ", "1970-01-01T00:00:00.+01:00", "1970-01-01T00:00.5:00Z",
		"1970-01-01T00:00:00ZZ", "1970-01-01T00:00:00Z ", " 1970-01-01T00:00:00Z", "1970-01-01T00:00:00Z\n", "1970-01-01T00:00:00 Z", "1970-01-01T00:00:00Z+01:00", "1970-01-01T00:00:00A", "1970-01-01T00:00:00\x00",
		"1970-01-01T00:00:00+", "1970-01-01T00:00:00+01", "1970-01-01T00:00:00+01:", "1970-01-01T00:00:00+01:0", "1970-01-01T00:00:00+0100", "1970-01-01T00:00:00+1:00", "1970-01-01T00:00:00+01:000", "1970-01-01T00:00:00+01:00Z", "1970-01-01T00:00:00+01:00:00",
		"1970-01-01T00:00:00+24:00", "1970-01-01T00:00:00-24:00", "1970-01-01T00:00:00+00:60", "1970-01-01T00:00:00-00:60", "1970-01-01T00:00:00+-1:00", "1970-01-01T00:00:00*01:00", "1970-01-01T00:00:00\u221201:00",
		"1900-02-29T00:00:00+01:00", long, "1970-01-01T00:00:00." + long, "1970-01-01T00:00:" + long + "Z", "1970-01-01T00:00:00+" + long, "\xff\xfe",
	} {
		if n, e := Parse(s); n != 0 || e != api.ErrForm {
			t.Errorf("Parse(%.60q) = %d, %d, want ErrForm", s, n, e)
		}
	}
}

// Every text that comes of a good one by one byte less, more or changed is told as the form has it.
func TestParseWithOneByteWrong(t *testing.T) {
	good := "2024-02-29T12:34:56.7+01:30"
	digit := func(b byte) bool { return b >= '0' && b <= '9' }
	for i := range len(good) {
		less := good[:i] + good[i+1:]
		if n, e := Parse(less); n != 0 || e != api.ErrForm {
			t.Errorf("Parse(%q) = %d, %d, want ErrForm", less, n, e)
		}
		for b := range 256 {
			sign := string([]byte{byte(b)})
			other := good[:i] + sign + good[i+1:]
			_, e := Parse(other)
			fits := other == good || i == 10 && b == 't' || i == 21 && b == '-' || digit(good[i]) && digit(byte(b))
			if !fits && e != api.ErrForm {
				t.Errorf("Parse(%q): %d, want ErrForm", other, e)
			}
			// Any last digit of the minutes, of the seconds and of their fraction leaves a time that may be.
			if (i == 15 || i == 18 || i == 20) && fits && e != api.OK {
				t.Errorf("Parse(%q): %d, want OK", other, e)
			}
			more := good[:i] + sign + good[i:]
			_, e = Parse(more)
			if fits = (i == 20 || i == 21) && digit(byte(b)); fits != (e == api.OK) || !fits && e != api.ErrForm {
				t.Errorf("Parse(%q): %d", more, e)
			}
		}
	}
}

// P2.3

func TestMail(t *testing.T) {
	for _, x := range []struct {
		n, off int
		s      string
	}{
		{951782400, 3600, "Tue, 29 Feb 2000 01:00:00 +0100"},
		{951782400, 0, "Tue, 29 Feb 2000 00:00:00 +0000"},
		{951782400, -1, "Mon, 28 Feb 2000 23:59:59 -0000"},
		{0, 0, "Thu, 01 Jan 1970 00:00:00 +0000"},
		{0, 59, "Thu, 01 Jan 1970 00:00:59 +0000"},
		{0, -59, "Wed, 31 Dec 1969 23:59:01 -0000"},
		{0, 60, "Thu, 01 Jan 1970 00:01:00 +0001"},
		{0, -60, "Wed, 31 Dec 1969 23:59:00 -0001"},
		{0, 3599, "Thu, 01 Jan 1970 00:59:59 +0059"},
		{0, -19800, "Wed, 31 Dec 1969 18:30:00 -0530"},
		{0, 20700, "Thu, 01 Jan 1970 05:45:00 +0545"},
		{0, api.MaxOff, "Fri, 02 Jan 1970 01:59:59 +2559"},
		{0, -api.MaxOff, "Tue, 30 Dec 1969 22:00:01 -2559"},
		{firstSecond, 0, "Mon, 01 Jan 0001 00:00:00 +0000"},
		{firstSecond - 3600, 3600, "Mon, 01 Jan 0001 00:00:00 +0100"},
		{lastSecond, 0, "Fri, 31 Dec 9999 23:59:59 +0000"},
		{lastSecond + 3600, -3600, "Fri, 31 Dec 9999 23:59:59 -0100"},
	} {
		if s, e := Mail(x.n, x.off); s != x.s || e != api.OK {
			t.Errorf("Mail(%d, %d) = %q, %d, want %q", x.n, x.off, s, e, x.s)
		}
	}
}

func TestMailAsTheLibraryHasIt(t *testing.T) {
	for i, n := range seconds() {
		off := i*977%(2*26*60) - 26*60 + 1 // in minutes
		if off > 25*60+59 {
			off = 0
		}
		at := time.Unix(int64(n), 0).In(time.FixedZone("", off*60))
		if at.Year() < 1 || at.Year() > 9999 {
			continue
		}
		want := at.Format(time.RFC1123Z)
		if s, e := Mail(n, off*60); s != want || e != api.OK {
			t.Fatalf("Mail(%d, %d) = %q, %d, want %q", n, off*60, s, e, want)
		}
	}
}

func TestMailOfWrongArguments(t *testing.T) {
	for _, x := range []struct{ n, off int }{
		{0, api.MaxOff + 1}, {0, -api.MaxOff - 1}, {0, math.MaxInt}, {0, math.MinInt},
		{lastSecond, 1}, {lastSecond + 1, 0}, {firstSecond, -1}, {firstSecond - 1, 0},
		{math.MaxInt, api.MaxOff}, {math.MaxInt, 1}, {math.MaxInt, 0}, {math.MinInt, -api.MaxOff}, {math.MinInt, -1}, {math.MinInt, 0},
		{math.MaxInt, math.MaxInt}, {math.MinInt, math.MinInt}, {math.MaxInt, math.MinInt + 1}, {lastSecond + 100000, -100000},
	} {
		if s, e := Mail(x.n, x.off); s != "" || e != api.ErrArg {
			t.Errorf("Mail(%d, %d) = %q, %d, want ErrArg", x.n, x.off, s, e)
		}
	}
}

func TestMailWithWildNumbers(t *testing.T) {
	for _, n := range wild {
		for _, off := range wild {
			s, e := Mail(n, off)
			may := off >= -api.MaxOff && off <= api.MaxOff && n >= firstSecond-off && n <= lastSecond-off
			if may != (e == api.OK) || !may && (s != "" || e != api.ErrArg) {
				t.Errorf("Mail(%d, %d) = %q, %d", n, off, s, e)
			}
		}
	}
}

// P2.4

func TestWhatIsWrittenIsParsed(t *testing.T) {
	for _, n := range seconds() {
		s, e := Text(n)
		if e != api.OK {
			t.Fatalf("Text(%d): %d", n, e)
		}
		if back, e := Parse(s); back != n || e != api.OK {
			t.Fatalf("Parse(%q) = %d, %d, want %d", s, back, e, n)
		}
	}
}

func TestSecondsRiseAsDaysAndTimesDo(t *testing.T) {
	for _, n := range seconds() {
		for _, step := range []int{1, 59, 60, 3600, 86399, 86400, 31536000} {
			if n+step > lastSecond {
				continue
			}
			low, _ := Text(n)
			high, _ := Text(n + step)
			// Each part has as many digits as in every other text, so texts stand in order as days and times do.
			if low >= high {
				t.Fatalf("%d is %q, %d is %q", n, low, n+step, high)
			}
		}
	}
}
