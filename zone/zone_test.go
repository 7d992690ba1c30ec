package zone

import (
	"fmt"
	"math"
	"math/rand"
	"regexp"
	"strconv"
	"strings"
	"testing"

	"mailcoach/api"
)

// wild holds numbers that no field of a zone should be undone by.
var wild = []int{math.MinInt, math.MinInt + 1, math.MinInt + 3600, -1 << 62, -604800, -604799, -93600, -93599, -90000, -89999, -3600, -1, 0, 1, 2, 3, 4, 5, 6, 7, 12, 13, 364, 365, 366, 3600, 7200, 86399, 86400, 89999, 90000, 93599, 93600, 604799, 604800, 1 << 32, 1 << 62, math.MaxInt - 3600, math.MaxInt - 1, math.MaxInt}

func julian(day, at int) api.Rule { return api.Rule{Kind: api.Julian, Day: day, At: at} }

func zero(day, at int) api.Rule { return api.Rule{Kind: api.Zero, Day: day, At: at} }

func nth(month, week, day, at int) api.Rule {
	return api.Rule{Kind: api.Nth, Month: month, Week: week, Day: day, At: at}
}

// cet is a zone that may be, to be changed in one field.
func cet() api.Zone {
	return api.Zone{Std: "CET", Off: 3600, Has: true, Dst: "CEST", Ahead: 7200, From: nth(3, 5, 0, 7200), To: nth(10, 5, 0, 10800)}
}

// good holds zones and their texts, each written out by hand.
var good = []struct {
	s string
	z api.Zone
}{
	{"UTC0", api.Zone{Std: "UTC"}},
	{"utc0", api.Zone{Std: "utc"}},
	{"ABCDEFGHIZ0", api.Zone{Std: "ABCDEFGHIZ"}},
	{"<123>0", api.Zone{Std: "123"}},
	{"<+-+>0", api.Zone{Std: "+-+"}},
	{"<--->1", api.Zone{Std: "---", Off: -3600}},
	{"<ABCDEFGHI9>0", api.Zone{Std: "ABCDEFGHI9"}},
	{"<+0545>-5:45", api.Zone{Std: "+0545", Off: 20700}},
	{"ABC-0:00:01", api.Zone{Std: "ABC", Off: 1}},
	{"ABC0:00:01", api.Zone{Std: "ABC", Off: -1}},
	{"ABC-0:01", api.Zone{Std: "ABC", Off: 60}},
	{"ABC0:59:59", api.Zone{Std: "ABC", Off: -3599}},
	{"ABC-1:00:09", api.Zone{Std: "ABC", Off: 3609}},
	{"ABC10:10:10", api.Zone{Std: "ABC", Off: -36610}},
	{"ABC24:59:59", api.Zone{Std: "ABC", Off: -89999}},
	{"ABC-24:59:59", api.Zone{Std: "ABC", Off: 89999}},
	{"CET-1CEST,M3.5.0,M10.5.0/3", cet()},
	{"EST5EDT4:30,J60/-1,300/24:00:01", api.Zone{Std: "EST", Off: -18000, Has: true, Dst: "EDT", Ahead: -16200, From: julian(60, -3600), To: zero(300, 86401)}},
	{"<-03>3<-02>,M3.5.0/-2,M10.5.0/-1", api.Zone{Std: "-03", Off: -10800, Has: true, Dst: "-02", Ahead: -7200, From: nth(3, 5, 0, -7200), To: nth(10, 5, 0, -3600)}},
	{"IST-1GMT0,M10.5.0,M3.5.0/1", api.Zone{Std: "IST", Off: 3600, Has: true, Dst: "GMT", From: nth(10, 5, 0, 7200), To: nth(3, 5, 0, 3600)}},
	{"LHST-10:30LHDT-11,M10.1.0,M4.1.0", api.Zone{Std: "LHST", Off: 37800, Has: true, Dst: "LHDT", Ahead: 39600, From: nth(10, 1, 0, 7200), To: nth(4, 1, 0, 7200)}},
	{"ABC-1ABC-1,J1,J365", api.Zone{Std: "ABC", Off: 3600, Has: true, Dst: "ABC", Ahead: 3600, From: julian(1, 7200), To: julian(365, 7200)}},
	{"ABC1DEF,0/0,365/0", api.Zone{Std: "ABC", Off: -3600, Has: true, Dst: "DEF", From: zero(0, 0), To: zero(365, 0)}},
	{"ABC0DEF,M1.1.0/167:59:59,M12.5.6/-167:59:59", api.Zone{Std: "ABC", Has: true, Dst: "DEF", Ahead: 3600, From: nth(1, 1, 0, 604799), To: nth(12, 5, 6, -604799)}},
	{"ABC0DEF,M1.1.0/2:00:01,M12.5.6/1:59:59", api.Zone{Std: "ABC", Has: true, Dst: "DEF", Ahead: 3600, From: nth(1, 1, 0, 7201), To: nth(12, 5, 6, 7199)}},
	{"ABC0DEF,1/-0:00:01,2/-2", api.Zone{Std: "ABC", Has: true, Dst: "DEF", Ahead: 3600, From: zero(1, -1), To: zero(2, -7200)}},
	// An hour more than Off may be above what Ahead may be otherwise.
	{"ABC-24:59:59DEF,J1,J2", api.Zone{Std: "ABC", Off: 89999, Has: true, Dst: "DEF", Ahead: 93599, From: julian(1, 7200), To: julian(2, 7200)}},
	{"ABC-24:59:59DEF-24:59:59,J1,J2", api.Zone{Std: "ABC", Off: 89999, Has: true, Dst: "DEF", Ahead: 89999, From: julian(1, 7200), To: julian(2, 7200)}},
	{"ABC-24:59:59DEF24:59:59,J1,J2", api.Zone{Std: "ABC", Off: 89999, Has: true, Dst: "DEF", Ahead: -89999, From: julian(1, 7200), To: julian(2, 7200)}},
	{"<ABCDEFGH-1>-24:59:58<ABCDEFGH-2>-24:59:59,M12.5.6/-167:59:59,M11.5.6/-167:59:59", api.Zone{Std: "ABCDEFGH-1", Off: 89998, Has: true, Dst: "ABCDEFGH-2", Ahead: 89999, From: nth(12, 5, 6, -604799), To: nth(11, 5, 6, -604799)}},
}

// bad holds texts, not too long, that are no zone's.
var bad = []string{
	"", " ", "0", "-1", ",", "<", ">", "<>", "<>0", "UTC", "UT0", "<U>0", "<12>0", "ABCDEFGHIJK0", "<ABCDEFGHI01>0", "\x00\x00\x00" + "0",
	// names: with signs that none has, with `<` and `>` where they are not due, or one of them alone
	"U_C0", "<U_C>0", "<U C>0", "<ÄBC>0", "ÄBC0", "ABCÄ0", "<A\xffC>0", "<UTC>0", "<abc>0", "<ABC1>", "<ABC10", "ABC1>0", "<<ABC1>>0", "<A<1>0", "<ABC1>>0", "+AB0", "A-B0", "ABC <D1>0",
	// times: signs, noughts ahead, more or fewer digits, parts that are 0
	"UTC00", "UTC-0", "UTC+0", "UTC+1", "UTC--1", "UTC01", "UTC-01", "UTC001", "UTC 1", "UTC1 ", " UTC1", "UTC1\n", "UTC0:00", "UTC0:00:00", "UTC1:00", "UTC1:00:00", "UTC1:30:00", "UTC-1:00", "UTC1:", "UTC1:3", "UTC1:030", "UTC1:30:", "UTC1:30:1", "UTC1:30:001", "UTC1:30:10:", "UTC1:30:10:10", "UTC1:60", "UTC1:99", "UTC1:00:60", "UTC1:59:60", "UTC:30", "UTC-:30", "UTC1::30", "UTC1.5", "UTC1:-1", "UTC1:00:-1", "UTC1:+1", "UTC0x1", "UTC1e1", "UTC١",
	// times that are too great, also so great that they wrap around
	"UTC25", "UTC-25", "UTC24:60", "UTC25:00:01", "UTC100", "UTC168", "UTC4294967296", "UTC18446744073709551616", "UTC18446744073709551617", "UTC-18446744073709551616", "UTC9223372036854775808", "UTC-9223372036854775808", "UTC1:18446744073709551646", "UTC1:30:18446744073709551626", "UTC0:90", "UTC0:00:3600",
	// summer time: without rules, with one, with three, with the Ahead that is left out
	"CET-1CEST", "CET-1CEST,", "CET-1CEST,,", "CET-1CEST,M3.5.0", "CET-1CEST,M3.5.0,", "CET-1CEST,M3.5.0,M10.5.0,", "CET-1CEST,M3.5.0,M10.5.0,M11.5.0", "CET-1CEST,M3.5.0,M10.5.0 ", "CET-1CEST,M3.5.0, M10.5.0", "CET-1CEST,M3.5.0;M10.5.0", "CET-1CESTM3.5.0,M10.5.0", "CET-1,M3.5.0,M10.5.0", "CET-1CEST-2,M3.5.0,M10.5.0", "CET-1CEST-2:00,M3.5.0,M10.5.0", "CET-1CEST--3,M3.5.0,M10.5.0", "CET-1CEST-25,M3.5.0,M10.5.0", "CET-1CEST25,M3.5.0,M10.5.0", "CET-1CE,M3.5.0,M10.5.0", "CET-1<CEST>,M3.5.0,M10.5.0", "CET-1ABCDEFGHIJK,M3.5.0,M10.5.0", "CETCEST,M3.5.0,M10.5.0", "CET-1CEST-3", "ABC-24:59:59DEF-25:59:59,J1,J2", "ABC-24:59:58DEF-25,J1,J2", "UTC0UTC0", "UTC0UTC",
	// rules: none of these days may be, or is written so
	"CET-1CEST,M0.5.0,M10.5.0", "CET-1CEST,M13.5.0,M10.5.0", "CET-1CEST,M3.0.0,M10.5.0", "CET-1CEST,M3.6.0,M10.5.0", "CET-1CEST,M3.5.7,M10.5.0", "CET-1CEST,M3.5.0,M10.5.7", "CET-1CEST,M3.5.0,M10.6.0", "CET-1CEST,M3.5.0,M13.5.0", "CET-1CEST,M3.5.0,M0.5.0", "CET-1CEST,M03.5.0,M10.5.0", "CET-1CEST,M3.05.0,M10.5.0", "CET-1CEST,M3.5.00,M10.5.0", "CET-1CEST,M-3.5.0,M10.5.0", "CET-1CEST,M3.5,M10.5.0", "CET-1CEST,M3.5.,M10.5.0", "CET-1CEST,M3..0,M10.5.0", "CET-1CEST,M.5.0,M10.5.0", "CET-1CEST,M3,M10.5.0", "CET-1CEST,M,M10.5.0", "CET-1CEST,3.5.0,M10.5.0", "CET-1CEST,m3.5.0,M10.5.0", "CET-1CEST,JM3.5.0,M10.5.0", "CET-1CEST,MJ3.5.0,M10.5.0", "CET-1CEST,M3.5.0.0,M10.5.0", "CET-1CEST,M18446744073709551619.5.0,M10.5.0",
	"CET-1CEST,J0,J1", "CET-1CEST,J1,J0", "CET-1CEST,J366,J1", "CET-1CEST,J1,J366", "CET-1CEST,J01,J1", "CET-1CEST,J-1,J1", "CET-1CEST,J,J1", "CET-1CEST,j1,J1", "CET-1CEST,JJ1,J1", "CET-1CEST,J1.1.1,J1", "CET-1CEST,J18446744073709551617,J1",
	"CET-1CEST,366,1", "CET-1CEST,1,366", "CET-1CEST,00,1", "CET-1CEST,01,1", "CET-1CEST,-1,1", "CET-1CEST,1,-0", "CET-1CEST,1,18446744073709551616",
	// At: the usual one, and those that may not be, or are not written so
	"CET-1CEST,M3.5.0/2,M10.5.0", "CET-1CEST,M3.5.0,M10.5.0/2", "CET-1CEST,M3.5.0/2:00,M10.5.0", "CET-1CEST,M3.5.0/02,M10.5.0", "CET-1CEST,M3.5.0/,M10.5.0", "CET-1CEST,M3.5.0,M10.5.0/", "CET-1CEST,M3.5.0//3,M10.5.0", "CET-1CEST,M3.5.0/+3,M10.5.0", "CET-1CEST,M3.5.0/-0,M10.5.0", "CET-1CEST,M3.5.0/3/3,M10.5.0", "CET-1CEST,M3.5.0/168,M10.5.0", "CET-1CEST,M3.5.0/-168,M10.5.0", "CET-1CEST,M3.5.0,M10.5.0/168", "CET-1CEST,M3.5.0/167:60,M10.5.0", "CET-1CEST,M3.5.0/167:59:60,M10.5.0", "CET-1CEST,J1/2,1", "CET-1CEST,J1,1/2", "CET-1CEST,J/3,1",
}

// P3.1

func TestMayOfGoodZones(t *testing.T) {
	for _, x := range good {
		if !May(x.z) {
			t.Errorf("May(%+v) = false", x.z)
		}
	}
}

func TestMayNames(t *testing.T) {
	for name, want := range map[string]bool{
		"ABC": true, "abz": true, "ABCDEFGHIJ": true, "000": true, "999": true, "+++": true, "---": true, "A1+": true, "-0123456789"[:10]: true,
		"": false, "A": false, "AB": false, "ABCDEFGHIJK": false, "-0123456789": false, "A_C": false, "A C": false, "AB ": false, " AB": false, "A\x00C": false, "<AB": false, "AB>": false, "<AB>": false, "A,C": false, "A.C": false, "A:C": false, "A/C": false, "@AB": false, "AB[": false, "`AB": false, "AB{": false, "ÄB": false, "ÄBC": false, "\xff\xff\xff": false, strings.Repeat("A", 1000): false,
	} {
		std, dst := cet(), cet()
		std.Std, dst.Dst = name, name
		for _, z := range []api.Zone{{Std: name}, std, dst} {
			if got := May(z); got != want {
				t.Errorf("May(%+v) = %v, want %v", z, got, want)
			}
		}
	}
}

func TestEveryByteInAName(t *testing.T) {
	for b := range 256 {
		want := strings.IndexByte("ABCDEFGHIJKLMNOPQRSTUVWXYZabcdefghijklmnopqrstuvwxyz0123456789+-", byte(b)) >= 0
		for i := range 3 {
			name := []byte("xyz")
			name[i] = byte(b)
			z := api.Zone{Std: string(name)}
			if got := May(z); got != want {
				t.Errorf("May(%+v) = %v, want %v", z, got, want)
			}
			if _, e := Write(z); want != (e == api.OK) {
				t.Errorf("Write(%+v): %d", z, e)
			}
		}
	}
}

func TestMayWithoutSummerTime(t *testing.T) {
	for i, z := range []api.Zone{
		{Std: "UTC", Dst: "DST"},
		{Std: "UTC", Dst: "x"},
		{Std: "UTC", Ahead: 3600},
		{Std: "UTC", Ahead: -1},
		{Std: "UTC", Off: -3600, Ahead: 1},
		{Std: "UTC", From: julian(1, 7200)},
		{Std: "UTC", From: api.Rule{Kind: api.Zero}},
		{Std: "UTC", From: api.Rule{Month: 1}},
		{Std: "UTC", From: api.Rule{Week: 1}},
		{Std: "UTC", From: api.Rule{Day: 1}},
		{Std: "UTC", From: api.Rule{At: 1}},
		{Std: "UTC", To: julian(1, 7200)},
		{Std: "UTC", To: api.Rule{Kind: api.Nth}},
		{Std: "UTC", To: api.Rule{Month: 1}},
		{Std: "UTC", To: api.Rule{Week: -1}},
		{Std: "UTC", To: api.Rule{Day: 1}},
		{Std: "UTC", To: api.Rule{At: -1}},
		{Std: "CET", Off: 3600, Dst: "CEST", Ahead: 7200, From: nth(3, 5, 0, 7200), To: nth(10, 5, 0, 10800)},
		{},
		{Off: 3600},
		{Has: true},
		{Std: "UTC", Has: true},
		{Std: "UTC", Has: true, Dst: "DST", Ahead: 3600},
		{Std: "UTC", Has: true, Ahead: 3600, From: julian(1, 0), To: julian(2, 0)},
		{Std: "UTC", Has: true, Dst: "DST", Ahead: 3600, From: julian(1, 0)},
		{Std: "UTC", Has: true, Dst: "DST", Ahead: 3600, To: julian(1, 0)},
		{Dst: "DST", Has: true, Ahead: 3600, From: julian(1, 0), To: julian(2, 0)},
	} {
		wantNoZone(t, i, z)
	}
}

func wantNoZone(t *testing.T, i int, z api.Zone) {
	t.Helper()
	if May(z) {
		t.Errorf("%d: May(%+v) = true", i, z)
	}
	if s, e := Write(z); s != "" || e != api.ErrArg {
		t.Errorf("%d: Write(%+v) = %q, %d, want ErrArg", i, z, s, e)
	}
}

func TestMayWithWildNumbers(t *testing.T) {
	in := func(n, low, high int) bool { return n >= low && n <= high }
	for i, n := range wild {
		wantMay(t, i, api.Zone{Std: "ABC", Off: n}, in(n, -89999, 89999))

		for _, off := range []int{-89999, -3600, 0, 3600, 86399, 86400, 89999} {
			z := cet()
			z.Off, z.Ahead = off, n
			wantMay(t, i, z, in(n, -89999, 89999) || n == off+3600)
			// Where Off may not be, an hour more than it helps nothing, also where the sum wraps around.
			z.Off, z.Ahead = n, n+3600
			wantMay(t, i, z, in(n, -89999, 89999))
		}

		for _, x := range []struct {
			r    api.Rule
			want bool
		}{
			{julian(n, 0), in(n, 1, 365)},
			{zero(n, 0), in(n, 0, 365)},
			{nth(n, 1, 1, 0), in(n, 1, 12)},
			{nth(1, n, 1, 0), in(n, 1, 5)},
			{nth(1, 1, n, 0), in(n, 0, 6)},
			{julian(1, n), in(n, -604799, 604799)},
			{zero(1, n), in(n, -604799, 604799)},
			{nth(1, 1, 1, n), in(n, -604799, 604799)},
			{api.Rule{Kind: n, Day: 1}, n == api.Julian || n == api.Zero},
			{api.Rule{Kind: n, Month: 1, Week: 1, Day: 1}, n == api.Nth},
			{api.Rule{Kind: api.Julian, Month: n, Day: 1}, n == 0},
			{api.Rule{Kind: api.Julian, Week: n, Day: 1}, n == 0},
			{api.Rule{Kind: api.Zero, Month: n, Day: 1}, n == 0},
			{api.Rule{Kind: api.Zero, Week: n, Day: 1}, n == 0},
		} {
			from, to := cet(), cet()
			from.From, to.To = x.r, x.r
			wantMay(t, i, from, x.want)
			wantMay(t, i, to, x.want)
		}
	}
}

// wantMay holds Write and Parse against May, too.
func wantMay(t *testing.T, i int, z api.Zone, want bool) {
	t.Helper()
	if !want {
		wantNoZone(t, i, z)
		return
	}
	if !May(z) {
		t.Errorf("%d: May(%+v) = false", i, z)
	}
	wantBack(t, z)
}

// wantBack: what is written is parsed.
func wantBack(t *testing.T, z api.Zone) {
	t.Helper()
	s, e := Write(z)
	if e != api.OK || s == "" || len(s) > api.MaxZone {
		t.Errorf("Write(%+v) = %q, %d", z, s, e)
	}
	if back, e := Parse(s); back != z || e != api.OK {
		t.Errorf("Parse(%q) = %+v, %d, want %+v", s, back, e, z)
	}
}

// P3.2

func TestWrite(t *testing.T) {
	for _, x := range good {
		if s, e := Write(x.z); s != x.s || e != api.OK {
			t.Errorf("Write(%+v) = %q, %d, want %q", x.z, s, e, x.s)
		}
	}
}

// wantTime is a time by the library's means: a whole one is cut from its end where it is 0.
func wantTime(n int) string {
	sign := ""
	if n < 0 {
		sign, n = "-", -n
	}
	s := fmt.Sprintf("%s%d:%02d:%02d", sign, n/3600, n/60%60, n%60)
	s = strings.TrimSuffix(s, ":00")
	if n%60 == 0 {
		s = strings.TrimSuffix(s, ":00")
	}
	return s
}

func TestWriteOfEveryOff(t *testing.T) {
	for off := -89999; off <= 89999; off++ {
		z := api.Zone{Std: "ABC", Off: off}
		want := "ABC" + wantTime(-off)
		if s, e := Write(z); s != want || e != api.OK {
			t.Fatalf("Write(%+v) = %q, %d, want %q", z, s, e, want)
		}
		if back, e := Parse(want); back != z || e != api.OK {
			t.Fatalf("Parse(%q) = %+v, %d", want, back, e)
		}
	}
}

func TestWriteOfEveryAt(t *testing.T) {
	z := cet()
	for at := -604799; at <= 604799; at += 7 {
		for _, n := range []int{at, at / 60 * 60, at / 3600 * 3600} {
			z.From.At = n
			want := "CET-1CEST,M3.5.0/" + wantTime(n) + ",M10.5.0/3"
			if n == 7200 {
				want = "CET-1CEST,M3.5.0,M10.5.0/3"
			}
			if s, e := Write(z); s != want || e != api.OK {
				t.Fatalf("Write(%+v) = %q, %d, want %q", z, s, e, want)
			}
		}
	}
}

// P3.3

func TestParse(t *testing.T) {
	for _, x := range good {
		if z, e := Parse(x.s); z != x.z || e != api.OK {
			t.Errorf("Parse(%q) = %+v, %d, want %+v", x.s, z, e, x.z)
		}
	}
}

func TestParseOfAnotherForm(t *testing.T) {
	for _, s := range bad {
		if len(s) > 100 {
			t.Errorf("%q is too long for this test", s)
		}
		if z, e := Parse(s); z != (api.Zone{}) || e != api.ErrForm {
			t.Errorf("Parse(%q) = %+v, %d, want ErrForm", s, z, e)
		}
	}
}

func TestParseOfTooMuch(t *testing.T) {
	for _, x := range []struct {
		s string
		e api.Errno
	}{
		{strings.Repeat("x", 100), api.ErrForm},
		{strings.Repeat("x", 101), api.ErrOver},
		{strings.Repeat("x", 1000000), api.ErrOver},
		{strings.Repeat("9", 100), api.ErrForm},
		{strings.Repeat("9", 101), api.ErrOver},
		{"UTC" + strings.Repeat("0", 97), api.ErrForm},
		{"UTC" + strings.Repeat("0", 98), api.ErrOver},
		{strings.Repeat("\x00", 100), api.ErrForm},
		{strings.Repeat("ä", 50), api.ErrForm}, // bytes are counted, not runes
		{strings.Repeat("ä", 51), api.ErrOver},
		{"CET-1CEST,M3.5.0,M10.5.0/3" + strings.Repeat(" ", 75), api.ErrOver},
	} {
		if z, e := Parse(x.s); z != (api.Zone{}) || e != x.e {
			t.Errorf("Parse(%.60q), %d bytes = %+v, %d, want %d", x.s, len(x.s), z, e, x.e)
		}
	}
}

const (
	namePattern = `([A-Za-z]{3,10}|<[A-Za-z0-9+-]{3,10}>)`
	timePattern = `(-?(?:0|[1-9][0-9]{0,2})(?::[0-5][0-9](?::[0-5][0-9])?)?)`
	rulePattern = `,(J[0-9]+|[0-9]+|M[0-9]+\.[0-9]\.[0-9])(?:/` + timePattern + `)?`
)

var (
	zonePattern = regexp.MustCompile(`\A` + namePattern + timePattern + `(?:` + namePattern + timePattern + `?` + rulePattern + rulePattern + `)?\z`)
	dayPattern  = regexp.MustCompile(`\A(?:J([1-9]|[1-9][0-9]|[12][0-9][0-9]|3[0-5][0-9]|36[0-5])|(0|[1-9]|[1-9][0-9]|[12][0-9][0-9]|3[0-5][0-9]|36[0-5])|M([1-9]|1[0-2])\.([1-5])\.([0-6]))\z`)
)

// expect is what Parse should answer, by patterns that know nothing of May and Write.
func expect(s string) (z api.Zone, ok bool) {
	m := zonePattern.FindStringSubmatch(s)
	if m == nil {
		return api.Zone{}, false
	}
	var oks [8]bool
	z.Std, oks[0] = expectName(m[1])
	z.Off, oks[1] = expectTime(m[2], 89999)
	z.Off = -z.Off
	if m[3] == "" {
		return z, oks[0] && oks[1]
	}
	z.Has = true
	z.Dst, oks[2] = expectName(m[3])
	z.Ahead, oks[3] = z.Off+3600, true
	if m[4] != "" {
		z.Ahead, oks[3] = expectTime(m[4], 89999)
		z.Ahead = -z.Ahead
		oks[3] = oks[3] && z.Ahead != z.Off+3600
	}
	z.From, oks[4] = expectDay(m[5])
	z.From.At, oks[5] = expectAt(m[6])
	z.To, oks[6] = expectDay(m[7])
	z.To.At, oks[7] = expectAt(m[8])
	return z, oks == [8]bool{true, true, true, true, true, true, true, true}
}

func expectName(s string) (string, bool) {
	inner := strings.Trim(s, "<>")
	return inner, s == inner || strings.ContainsAny(inner, "0123456789+-")
}

func expectTime(s string, most int) (int, bool) {
	n := 0
	for i, part := range strings.Split(strings.TrimPrefix(s, "-"), ":") {
		k, _ := strconv.Atoi(part)
		n += k * []int{3600, 60, 1}[i]
	}
	if s[0] == '-' {
		return -n, n > 0 && n <= most && wantTime(-n) == s
	}
	return n, n <= most && wantTime(n) == s
}

func expectAt(s string) (int, bool) {
	if s == "" {
		return 7200, true
	}
	n, ok := expectTime(s, 604799)
	return n, ok && n != 7200
}

func expectDay(s string) (api.Rule, bool) {
	m := dayPattern.FindStringSubmatch(s)
	if m == nil {
		return api.Rule{}, false
	}
	number := func(i int) int {
		n, _ := strconv.Atoi(m[i])
		return n
	}
	switch {
	case m[1] != "":
		return api.Rule{Kind: api.Julian, Day: number(1)}, true
	case m[2] != "":
		return api.Rule{Kind: api.Zero, Day: number(2)}, true
	}
	return api.Rule{Kind: api.Nth, Month: number(3), Week: number(4), Day: number(5)}, true
}

func wantParse(t *testing.T, s string) bool {
	t.Helper()
	want, ok := expect(s)
	wantError := api.OK
	if len(s) > 100 {
		want, wantError, ok = api.Zone{}, api.ErrOver, false
	} else if !ok {
		want, wantError = api.Zone{}, api.ErrForm
	}
	if z, e := Parse(s); z != want || e != wantError {
		t.Errorf("Parse(%q) = %+v, %d, want %+v, %d", s, z, e, want, wantError)
	}
	return ok
}

// Every text that comes of a good one by one byte less, more or changed is told as the form has it.
func TestParseWithOneByteWrong(t *testing.T) {
	for _, x := range good {
		if !wantParse(t, x.s) {
			t.Errorf("the patterns have no %q", x.s)
		}
		for i := range len(x.s) {
			wantParse(t, x.s[:i])
			wantParse(t, x.s[i:])
			wantParse(t, x.s[:i]+x.s[i+1:])
			for b := range 256 {
				sign := string([]byte{byte(b)})
				wantParse(t, x.s[:i]+sign+x.s[i+1:])
				wantParse(t, x.s[:i]+sign+x.s[i:])
				wantParse(t, x.s+sign)
			}
		}
	}
	for _, s := range bad {
		wantParse(t, s)
	}
}

// Texts laid together of pieces that zones are made of: some are good, most are not quite.
func TestParseOfTextsOfPieces(t *testing.T) {
	names := []string{"UTC", "CEST", "abc", "<+01>", "<A-1>", "<UTC>", "AB", "<12>", "ABCDEFGHIJ", "ABCDEFGHIJK", ""}
	times := []string{"0", "-0", "1", "-1", "-2", "01", "24", "25", "24:59:59", "-24:59:59", "-25:59:59", "1:00", "1:30", "1:30:00", "1:30:01", "1:60", "2", "3", "167:59:59", "168", "-167:59:59", "18446744073709551617", ""}
	days := []string{"J1", "J0", "J365", "J366", "0", "1", "365", "366", "00", "M1.1.0", "M12.5.6", "M13.1.0", "M0.1.0", "M1.6.0", "M1.0.0", "M1.1.7", "M01.1.0", "J", "M1.1", ""}
	source := rand.New(rand.NewSource(3))
	pick := func(l []string) string { return l[source.Intn(len(l))] }
	good := 0
	for range 400000 {
		s := pick(names) + pick(times)
		if source.Intn(8) > 0 {
			s += pick(names)
			if source.Intn(2) > 0 {
				s += pick(times)
			}
			for range 2 {
				s += "," + pick(days)
				if source.Intn(2) > 0 {
					s += "/" + pick(times)
				}
			}
		}
		if wantParse(t, s) {
			good++
		}
	}
	if good < 1000 {
		t.Errorf("only %d good ones", good)
	}
}

// P3.4

func anyName(source *rand.Rand) string {
	signs := "ABCDEFGHIJKLMNOPQRSTUVWXYZabcdefghijklmnopqrstuvwxyz"
	if source.Intn(2) > 0 {
		signs += "0123456789+-"
	}
	name := make([]byte, 3+source.Intn(8))
	for i := range name {
		name[i] = signs[source.Intn(len(signs))]
	}
	return string(name)
}

// anyTime is often one whose seconds, or minutes too, are 0.
func anyTime(source *rand.Rand, most int) int {
	n := source.Intn(2*most+1) - most
	unit := []int{1, 60, 3600}[source.Intn(3)]
	return n / unit * unit
}

func anyRule(source *rand.Rand) api.Rule {
	at := anyTime(source, 604799)
	if source.Intn(4) == 0 {
		at = 7200
	}
	switch source.Intn(3) {
	case 0:
		return julian(1+source.Intn(365), at)
	case 1:
		return zero(source.Intn(366), at)
	}
	return nth(1+source.Intn(12), 1+source.Intn(5), source.Intn(7), at)
}

func anyZone(source *rand.Rand) api.Zone {
	z := api.Zone{Std: anyName(source), Off: anyTime(source, 89999)}
	if source.Intn(4) == 0 {
		return z
	}
	z.Has, z.Dst, z.Ahead = true, anyName(source), z.Off+3600
	if source.Intn(2) > 0 {
		z.Ahead = anyTime(source, 89999)
	}
	z.From, z.To = anyRule(source), anyRule(source)
	return z
}

func TestWhatIsWrittenIsParsed(t *testing.T) {
	source := rand.New(rand.NewSource(4))
	seen := map[string]api.Zone{}
	for range 100000 {
		z := anyZone(source)
		if !May(z) {
			t.Fatalf("May(%+v) = false", z)
		}
		wantBack(t, z)
		s, _ := Write(z)
		if other, ok := seen[s]; ok && other != z {
			t.Fatalf("%+v and %+v are both %q", other, z, s)
		}
		seen[s] = z
	}
}

func TestEveryDayOfARuleIsParsed(t *testing.T) {
	z := cet()
	for day := range 366 {
		z.From, z.To = zero(day, 0), julian(max(1, day), 7200)
		wantBack(t, z)
	}
	for i := range 12 * 5 * 7 {
		z.From, z.To = nth(1+i/35, 1+i/7%5, i%7, 7200), nth(12-i/35, 5-i/7%5, 6-i%7, -1)
		wantBack(t, z)
	}
}

func TestWhatIsParsedIsWrittenSo(t *testing.T) {
	source := rand.New(rand.NewSource(5))
	signs := "0123456789+-:,./<>JMABCz "
	parsed := 0
	for range 400000 {
		text, _ := Write(anyZone(source))
		b := []byte(text)
		for range source.Intn(3) {
			b[source.Intn(len(b))] = signs[source.Intn(len(signs))]
		}
		s := string(b)
		z, e := Parse(s)
		if e != api.OK {
			if e != api.ErrForm || z != (api.Zone{}) {
				t.Fatalf("Parse(%q) = %+v, %d", s, z, e)
			}
			continue
		}
		parsed++
		if back, e := Write(z); back != s || e != api.OK || !May(z) {
			t.Fatalf("Parse(%q) = %+v, which is written %q, %d", s, z, back, e)
		}
	}
	if parsed < 1000 {
		t.Errorf("only %d parsed", parsed)
	}
}
