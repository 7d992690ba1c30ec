package cron

import (
	"math"
	"math/rand"
	"slices"
	"strconv"
	"strings"
	"testing"
	"time"

	"mailcoach/api"
)

// wild holds numbers that no call should be undone by.
var wild = []int{math.MinInt, math.MinInt + 1, -1 << 62, -60, -7, -1, 0, 1, 6, 7, 8, 12, 13, 23, 24, 28, 29, 30, 31, 32, 59, 60, 99, 100, 1970, 2024, 9999, 10000, 1 << 32, 1 << 62, math.MaxInt - 1, math.MaxInt}

// bounds are those of the fields, written out once more.
var bounds = [api.Fields][2]int{{0, 59}, {0, 23}, {1, 31}, {1, 12}, {0, 6}}

func numbers(first, last int) []int {
	var l []int
	for n := first; n <= last; n++ {
		l = append(l, n)
	}
	return l
}

// every is the schedule of stars alone.
func every() (c api.Cron) {
	for i, b := range bounds {
		c.L[i] = numbers(b[0], b[1])
		c.Star[i] = true
	}
	return c
}

// with is the schedule of stars, but for one field.
func with(field int, star bool, l ...int) api.Cron {
	c := every()
	c.L[field], c.Star[field] = l, star
	return c
}

func clone(c api.Cron) api.Cron {
	for i := range c.L {
		c.L[i] = slices.Clone(c.L[i])
	}
	return c
}

// some is a schedule that may be, by chance.
func some(source *rand.Rand) api.Cron {
	c := every()
	for i, b := range bounds {
		if source.Intn(3) == 0 {
			continue
		}
		c.Star[i] = false
		if source.Intn(8) == 0 {
			continue
		}
		l := source.Perm(b[1] - b[0] + 1)[:1+source.Intn(6)]
		for j := range l {
			l[j] += b[0]
		}
		slices.Sort(l)
		c.L[i] = l
	}
	return c
}

// equal holds schedules against each other without Same.
func equal(a, b api.Cron) bool {
	for i := range a.L {
		if !slices.Equal(a.L[i], b.L[i]) {
			return false
		}
	}
	return a.Star == b.Star
}

func empty(c api.Cron) bool { return equal(c, api.Cron{}) }

// bad holds schedules that may not be.
func bad() []api.Cron {
	list := []api.Cron{{}}
	for i, b := range bounds {
		first, last := b[0], b[1]
		for _, star := range []bool{false, true} {
			list = append(list,
				with(i, star),
				with(i, star, []int{}...),
				with(i, star, first-1),
				with(i, star, last+1),
				with(i, star, numbers(first-1, last)...),
				with(i, star, numbers(first, last+1)...),
				with(i, star, first, first),
				with(i, star, first, last, last),
				with(i, star, last, first),
				with(i, star, first, last, first+1),
				with(i, star, append(numbers(first, last), first)...),
				with(i, star, append([]int{first}, numbers(first, last)...)...),
				with(i, star, make([]int, 100000)...),
			)
			backwards := numbers(first, last)
			slices.Reverse(backwards)
			list = append(list, with(i, star, backwards...))
			for _, n := range wild {
				if n < first || n > last {
					list = append(list, with(i, star, n), with(i, star, first, n), with(i, star, n, last))
				}
			}
		}
		// a star that lacks the first number, the last one, or one between
		list = append(list,
			with(i, true, numbers(first+1, last)...),
			with(i, true, numbers(first, last-1)...),
			with(i, true, append(numbers(first, first+1), numbers(first+3, last)...)...),
			with(i, true, first),
		)
	}
	return list
}

// P5.1

func TestMay(t *testing.T) {
	good := []api.Cron{every()}
	for i, b := range bounds {
		for n := b[0]; n <= b[1]; n++ {
			good = append(good, with(i, false, n), with(i, false, numbers(n, b[1])...), with(i, false, numbers(b[0], n)...))
		}
		good = append(good, with(i, false, b[0], b[1]))
	}
	source := rand.New(rand.NewSource(51))
	for range 1000 {
		good = append(good, some(source))
	}
	for _, c := range good {
		if !May(c) {
			t.Errorf("May(%v) = false", c)
		}
	}
	for _, c := range bad() {
		if May(c) {
			t.Errorf("May(%v) = true", c)
		}
	}
}

func TestSame(t *testing.T) {
	// Also what may not be is the same as itself, and as nothing else.
	list := []api.Cron{
		{},
		every(),
		{Star: [api.Fields]bool{true}},
		{Star: [api.Fields]bool{false, false, false, false, true}},
		with(api.Minute, false, 1, 2),
		with(api.Minute, false, 2, 1),
		with(api.Minute, false, 1, 1, 2),
		with(api.Minute, false, 1),
		with(api.Minute, true, 1),
		with(api.Hour, false, 1),
		with(api.Wday, false, math.MinInt),
		with(api.Wday, false, math.MaxInt),
	}
	for i, b := range bounds {
		list = append(list, with(i, false, numbers(b[0], b[1])...), with(i, false, b[0], b[1]), with(i, false, b[1]), with(i, false))
	}
	for i, a := range list {
		for j, b := range list {
			if got := Same(clone(a), b); got != (i == j) {
				t.Errorf("Same(%v, %v) = %v", a, b, got)
			}
		}
	}
	if !Same(api.Cron{}, api.Cron{L: [api.Fields][]int{{}, {}, {}, {}, {}}}) {
		t.Error("a list without elements may be nil or empty")
	}
}

// P5.2

func TestParse(t *testing.T) {
	days := with(api.Wday, false, 1, 2, 3, 4, 5)
	days.L[api.Minute], days.Star[api.Minute] = []int{30}, false
	days.L[api.Hour], days.Star[api.Hour] = []int{6}, false
	for s, want := range map[string]api.Cron{
		"* * * * *":            every(),
		"30 6 * * mon-fri":     days,
		"30 06 * * 1-5":        days,
		"30 6 * * 5,4-4,1-3":   days,
		"5 * * * *":            with(api.Minute, false, 5),
		"05 * * * *":           with(api.Minute, false, 5),
		"0 * * * *":            with(api.Minute, false, 0),
		"00 * * * *":           with(api.Minute, false, 0),
		"59 * * * *":           with(api.Minute, false, 59),
		"0-59 * * * *":         with(api.Minute, false, numbers(0, 59)...),
		"*/1 * * * *":          with(api.Minute, false, numbers(0, 59)...),
		"*,* * * * *":          with(api.Minute, false, numbers(0, 59)...),
		"*,5 * * * *":          with(api.Minute, false, numbers(0, 59)...),
		"5,* * * * *":          with(api.Minute, false, numbers(0, 59)...),
		"*/20 * * * *":         with(api.Minute, false, 0, 20, 40),
		"*/59 * * * *":         with(api.Minute, false, 0, 59),
		"*/60 * * * *":         with(api.Minute, false, 0),
		"*/99 * * * *":         with(api.Minute, false, 0),
		"*/07 * * * *":         with(api.Minute, false, 0, 7, 14, 21, 28, 35, 42, 49, 56),
		"3-14/5 * * * *":       with(api.Minute, false, 3, 8, 13),
		"3-13/5 * * * *":       with(api.Minute, false, 3, 8, 13),
		"3-12/5 * * * *":       with(api.Minute, false, 3, 8),
		"7-7 * * * *":          with(api.Minute, false, 7),
		"7-7/3 * * * *":        with(api.Minute, false, 7),
		"5,1-3 * * * *":        with(api.Minute, false, 1, 2, 3, 5),
		"9,1,5,1,09,9 * * * *": with(api.Minute, false, 1, 5, 9),
		"10-20/5,*/30 * * * *": with(api.Minute, false, 0, 10, 15, 20, 30),
		"* 0 * * *":            with(api.Hour, false, 0),
		"* 23 * * *":           with(api.Hour, false, 23),
		"* 1-9/4 * * *":        with(api.Hour, false, 1, 5, 9),
		"* */23 * * *":         with(api.Hour, false, 0, 23),
		"* * 1 * *":            with(api.Mday, false, 1),
		"* * 31 * *":           with(api.Mday, false, 31),
		"* * */10 * *":         with(api.Mday, false, 1, 11, 21, 31),
		"* * */31 * *":         with(api.Mday, false, 1),
		"* * * 1 *":            with(api.Month, false, 1),
		"* * * 12 *":           with(api.Month, false, 12),
		"* * * */5 *":          with(api.Month, false, 1, 6, 11),
		"* * * jan-dec *":      with(api.Month, false, numbers(1, 12)...),
		"* * * JAN,dec *":      with(api.Month, false, 1, 12),
		"* * * Feb-JuN/2,8 *":  with(api.Month, false, 2, 4, 6, 8),
		"* * * 3-maY *":        with(api.Month, false, 3, 4, 5),
		"* * * aPR-06 *":       with(api.Month, false, 4, 5, 6),
		"* * * * 0":            with(api.Wday, false, 0),
		"* * * * 7":            with(api.Wday, false, 0),
		"* * * * 07":           with(api.Wday, false, 0),
		"* * * * sun":          with(api.Wday, false, 0),
		"* * * * 0,7,sun":      with(api.Wday, false, 0),
		"* * * * 6":            with(api.Wday, false, 6),
		"* * * * 0-6":          with(api.Wday, false, numbers(0, 6)...),
		"* * * * 0-7":          with(api.Wday, false, numbers(0, 6)...),
		"* * * * 1-7":          with(api.Wday, false, numbers(0, 6)...),
		"* * * * sun-sat":      with(api.Wday, false, numbers(0, 6)...),
		"* * * * fri-7":        with(api.Wday, false, 0, 5, 6),
		"* * * * 7-7":          with(api.Wday, false, 0),
		"* * * * 0-7/7":        with(api.Wday, false, 0),
		"* * * * 1-7/3":        with(api.Wday, false, 0, 1, 4),
		"* * * * 1-7/4":        with(api.Wday, false, 1, 5),
		"* * * * */7":          with(api.Wday, false, 0),
		"* * * * */6":          with(api.Wday, false, 0, 6),
		"* * * * SUN-tUe,SaT":  with(api.Wday, false, 0, 1, 2, 6),
	} {
		if c, e := Parse(s); e != api.OK || !equal(c, want) {
			t.Errorf("Parse(%q) = %v, %d, want %v", s, c, e, want)
		}
	}
}

func TestParseOfAnotherForm(t *testing.T) {
	for _, s := range []string{
		// not five parts with one blank between
		"", " ", "    ", "*", "* * * *", "* * * * * *", " * * * * *", "* * * * * ", "*  * * * *", "* * * *  *", "* * * *\t*", "* * *\n* *", "*\u00a0* * * *", "*****", "*,*,*,*,*", "@daily", "* * * * *\n", "* * * * *\x00",
		// pieces that lack something, or have too much
		", * * * *", "1, * * * *", ",1 * * * *", "1,,2 * * * *", "1,2, * * * *", "- * * * *", "-1 * * * *", "1- * * * *", "1--2 * * * *", "1-2-3 * * * *", "1-2- * * * *", "+1 * * * *", "/ * * * *", "/2 * * * *", "*/ * * * *", "1-2/ * * * *", "*// * * * *", "*/2/2 * * * *", "*/1-2 * * * *", "1-2/1-2 * * * *", "** * * * *", "*1 * * * *", "1* * * * *", "*-* * * * *", "*-5 * * * *", "5-* * * * *", "1;2 * * * *", "1.5 * * * *", "1..5 * * * *", "0x5 * * * *", "1e1 * * * *", "? * * * *", "L * * * *", "\xff * * * *", "\u0661 * * * *", "\uff11 * * * *",
		// a step behind one number, or one that may not be
		"5/2 * * * *", "0/1 * * * *", "* * * jan/2 *", "* * * * 7/1", "*/0 * * * *", "*/00 * * * *", "1-5/0 * * * *", "*/100 * * * *", "*/001 * * * *", "*/-1 * * * *", "*/+1 * * * *", "*/* * * * *", "*/a * * * *", "* * * */jan *", "* * * 1-9/feb *", "* * * * */mon",
		// numbers of more digits, or out of bounds
		"001 * * * *", "000 * * * *", "100 * * * *", "60 * * * *", "99 * * * *", "0-60 * * * *", "60-61 * * * *", "1,60 * * * *", "1-005 * * * *", "18446744073709551616 * * * *", "4294967297 * * * *", "* 24 * * *", "* 0-24 * * *", "* * 0 * *", "* * 00 * *", "* * 32 * *", "* * 0-5 * *", "* * 1-32 * *", "* * * 0 *", "* * * 13 *", "* * * 0-3 *", "* * * dec-13 *", "* * * * 8", "* * * * 0-8", "* * * * 10",
		// the first number is the greater one
		"5-3 * * * *", "59-0 * * * *", "5-4/2 * * * *", "* 23-22 * * *", "* * 31-1 * *", "* * * dec-jan *", "* * * * 7-0", "* * * * 7-6", "* * * * sat-sun", "* * * * 7-sun", "* * * * fri-mon",
		// names: of another field, cut short, written out, of another calendar
		"x * * * *", "jan * * * *", "* sun * * *", "* * mon * *", "* * * sun *", "* * * mon *", "* * * * jan", "* * * * mar", "* * * ja *", "* * * j *", "* * * january *", "* * * jann *", "* * * anf *", "* * * ebm *", "* * * janfeb *", "* * * jan-feb-mar *", "* * * jan,, *", "* * * -jan *", "* * * jan- *", "* * * 1jan *", "* * * jan1 *", "* * * * su", "* * * * sunday", "* * * * unm", "* * * * tues", "* * * * don", "* * * * s\x00n",
		// signs that become a letter of a name where case is folded
		"* * * * \u017fun", "* * * * \u017fu", "* * * * fr\u0130", "* * * * fr\u0131", "* * * * FR\u0130", "* * * \u017fep *", "* * * \u017fe *", "* * * * \xf3un", "* * * * Sun\u0301",
		// letters lie 32 bytes apart, but what lies so beside them is none
		"* * * * \x13\x15\x0e", "* * * \x0a\x01\x0e *", "* * * JA[ *",
	} {
		if c, e := Parse(s); e != api.ErrForm || !empty(c) {
			t.Errorf("Parse(%q) = %v, %d, want ErrForm", s, c, e)
		}
	}
}

func TestParseOfLongTexts(t *testing.T) {
	fits := strings.Repeat("1,", 95) + "11 * * * *"
	if len(fits) != api.MaxCron {
		t.Fatal(len(fits))
	}
	if c, e := Parse(fits); e != api.OK || !equal(c, with(api.Minute, false, 1, 11)) {
		t.Errorf("Parse of %d bytes = %v, %d", len(fits), c, e)
	}
	if _, e := Parse("1" + fits[:len(fits)-1]); e != api.ErrForm {
		t.Errorf("200 bytes of another form: %d", e)
	}
	for _, s := range []string{
		"1," + fits[1:],
		fits + " ",
		strings.Repeat(" ", 201),
		strings.Repeat("x", 201),
		strings.Repeat("\u017f", 101), // bytes count, not runes
		strings.Repeat("*/1,", 1<<18),
		"* * * * " + strings.Repeat("9", 193),
	} {
		if c, e := Parse(s); e != api.ErrOver || !empty(c) {
			t.Errorf("Parse of %d bytes = %v, %d, want ErrOver", len(s), c, e)
		}
	}
	for _, s := range []string{strings.Repeat("\u017f", 100), strings.Repeat(" ", 200), "* * * * " + strings.Repeat("9", 192)} {
		if c, e := Parse(s); e != api.ErrForm || !empty(c) {
			t.Errorf("Parse of %d bytes = %v, %d, want ErrForm", len(s), c, e)
		}
	}
}

// spellings are all texts of a field's numbers.
func spellings(field int) map[string]int {
	all := map[string]int{}
	last := bounds[field][1]
	if field == api.Wday {
		last = 7
	}
	for n := bounds[field][0]; n <= last; n++ {
		all[strconv.Itoa(n)] = n
		if n < 10 {
			all["0"+strconv.Itoa(n)] = n
		}
	}
	names := map[int][]string{
		api.Month: {"", "jan", "feb", "mar", "apr", "may", "jun", "jul", "aug", "sep", "oct", "nov", "dec"},
		api.Wday:  {"sun", "mon", "tue", "wed", "thu", "fri", "sat"},
	}
	for n, name := range names[field] {
		for great := 0; great < 8 && name != ""; great++ {
			letters := []byte(name)
			for i := range letters {
				if great>>i&1 == 1 {
					letters[i] -= 32
				}
			}
			all[string(letters)] = n
		}
	}
	return all
}

// model is what a piece should have, worked out by other means, or nil.
func model(field int, known map[string]int, piece string) []int {
	head, tail, stepped := strings.Cut(piece, "/")
	step := 1
	if stepped {
		n, err := strconv.Atoi(tail)
		if err != nil || len(tail) > 2 || n < 1 || strings.ContainsAny(tail, "+-") {
			return nil
		}
		step = n
	}
	low, high, ranged := strings.Cut(head, "-")
	first, ok := known[low]
	last, also := first, ok
	if ranged {
		last, also = known[high]
	}
	if head == "*" {
		first, last, ok, also, ranged = bounds[field][0], bounds[field][1], true, true, true
	}
	if !ok || !also || first > last || stepped && !ranged {
		return nil
	}
	has := map[int]bool{}
	for n := first; n <= last; n++ {
		if (n-first)%step == 0 {
			has[n] = true
		}
	}
	if field == api.Wday && has[7] {
		delete(has, 7)
		has[0] = true
	}
	var l []int
	for n := range 60 {
		if has[n] {
			l = append(l, n)
		}
	}
	return l
}

func hold(t *testing.T, field int, known map[string]int, piece string) {
	t.Helper()
	parts := []string{"*", "*", "*", "*", "*"}
	parts[field] = piece
	s := strings.Join(parts, " ")
	c, e := Parse(s)
	want := model(field, known, piece)
	if want == nil {
		if e != api.ErrForm || !empty(c) {
			t.Fatalf("Parse(%q) = %v, %d, want ErrForm", s, c, e)
		}
		return
	}
	if e != api.OK || !equal(c, with(field, piece == "*", want...)) {
		t.Fatalf("Parse(%q) = %v, %d, want %v", s, c, e, want)
	}
}

func TestParseOfAllPieces(t *testing.T) {
	for field := range bounds {
		known := spellings(field)
		texts := []string{"", "*", "-1", "1x"}
		for s := range known {
			texts = append(texts, s)
		}
		for n := range 101 {
			s := strconv.Itoa(n)
			texts = append(texts, s)
			hold(t, field, known, "*/"+s)
			hold(t, field, known, "*/0"+s)
		}
		for i, a := range texts {
			hold(t, field, known, a)
			hold(t, field, known, a+"/1")
			hold(t, field, known, a+"/"+texts[(i+1)%len(texts)])
			for j, b := range texts {
				hold(t, field, known, a+"-"+b)
				hold(t, field, known, a+"-"+b+"/"+strconv.Itoa((i+j)%13))
				hold(t, field, known, a+"-"+b+"/"+strconv.Itoa((i*j)%101))
			}
		}
	}
}

func TestParseOfAllShortPieces(t *testing.T) {
	signs := "*-/019jansu"
	for _, field := range []int{api.Mday, api.Month, api.Wday} {
		known := spellings(field)
		pieces := []string{""}
		for range 5 {
			var longer []string
			for _, p := range pieces {
				hold(t, field, known, p)
				for _, sign := range signs {
					longer = append(longer, p+string(sign))
				}
			}
			pieces = longer
		}
	}
}

func TestParseOfAllNames(t *testing.T) {
	// Each byte once at each place of a name.
	for field, name := range map[int]string{api.Month: "sep", api.Wday: "fri"} {
		known := spellings(field)
		for i := range name {
			for b := range 256 {
				if b != ' ' && b != ',' {
					hold(t, field, known, name[:i]+string([]byte{byte(b)})+name[i+1:])
					hold(t, field, known, name[:i]+string([]byte{byte(b)})+name[i:])
				}
			}
			hold(t, field, known, name[:i]+name[i+1:])
		}
	}
}

func TestParseOfSeveralPieces(t *testing.T) {
	source := rand.New(rand.NewSource(52))
	for range 20000 {
		field := source.Intn(api.Fields)
		first, last := bounds[field][0], bounds[field][1]
		known := spellings(field)
		var pieces []string
		has := map[int]bool{}
		for range 1 + source.Intn(6) {
			a, b := first+source.Intn(last-first+1), first+source.Intn(last-first+1)
			piece := []string{"*/" + strconv.Itoa(1+source.Intn(99)), strconv.Itoa(a), strconv.Itoa(min(a, b)) + "-" + strconv.Itoa(max(a, b)) + "/" + strconv.Itoa(1+source.Intn(12))}[source.Intn(3)]
			pieces = append(pieces, piece)
			for _, n := range model(field, known, piece) {
				has[n] = true
			}
		}
		var want []int
		for n := range 60 {
			if has[n] {
				want = append(want, n)
			}
		}
		parts := []string{"*", "*", "*", "*", "*"}
		parts[field] = strings.Join(pieces, ",")
		s := strings.Join(parts, " ")
		if c, e := Parse(s); e != api.OK || !equal(c, with(field, false, want...)) {
			t.Fatalf("Parse(%q) = %v, %d, want %v", s, c, e, want)
		}
	}
}

// P5.3

func TestWrite(t *testing.T) {
	for _, x := range []struct {
		c api.Cron
		s string
	}{
		{every(), "* * * * *"},
		{with(api.Minute, false, 0), "0 * * * *"},
		{with(api.Minute, false, 1, 2, 3, 59), "1,2,3,59 * * * *"},
		{with(api.Hour, false, 0, 23), "* 0,23 * * *"},
		{with(api.Mday, false, 1, 31), "* * 1,31 * *"},
		{with(api.Month, false, 1, 12), "* * * 1,12 *"},
		{with(api.Wday, false, 0, 6), "* * * * 0,6"},
		// All numbers are no star, if it is not set.
		{with(api.Month, false, numbers(1, 12)...), "* * * 1,2,3,4,5,6,7,8,9,10,11,12 *"},
		{with(api.Wday, false, numbers(0, 6)...), "* * * * 0,1,2,3,4,5,6"},
		{api.Cron{L: [api.Fields][]int{{30}, {6}, {13}, {5}, {5}}}, "30 6 13 5 5"},
	} {
		if s, e := Write(x.c); s != x.s || e != api.OK {
			t.Errorf("Write(%v) = %q, %d, want %q", x.c, s, e, x.s)
		}
	}
	for _, c := range bad() {
		if s, e := Write(c); s != "" || e != api.ErrArg {
			t.Errorf("Write(%v) = %q, %d, want ErrArg", c, s, e)
		}
	}
}

// P5.4

func TestDay(t *testing.T) {
	for _, x := range []struct {
		s       string
		y, m, d int
		want    bool
	}{
		// 2024-05-10 is a Friday, the 13th a Monday.
		{"0 0 13 * 5", 2024, 5, 10, true},
		{"0 0 13 * 5", 2024, 5, 13, true},
		{"0 0 13 * 5", 2024, 5, 14, false},
		{"0 0 13 * *", 2024, 5, 10, false},
		{"0 0 13 * *", 2024, 5, 13, true},
		{"0 0 * * 5", 2024, 5, 10, true},
		{"0 0 * * 5", 2024, 5, 13, false},
		{"0 0 * * *", 2024, 5, 14, true},
		// Stars are told by their sign alone: what has all numbers adds up like any other.
		{"0 0 1-31 * 5", 2024, 5, 14, true},
		{"0 0 */1 * 5", 2024, 5, 14, true},
		{"0 0 13 * 0-6", 2024, 5, 14, true},
		{"0 0 */2 * 5", 2024, 5, 10, true},
		{"0 0 */2 * 5", 2024, 5, 11, true},
		{"0 0 */2 * 5", 2024, 5, 12, false},
		// The month must be one in each case.
		{"0 0 13 4 5", 2024, 5, 10, false},
		{"0 0 13 4 5", 2024, 5, 13, false},
		{"0 0 * 4 *", 2024, 5, 13, false},
		{"0 0 * 4,6 *", 2024, 6, 13, true},
		// Minutes and hours count for nothing.
		{"59 23 13 5 *", 2024, 5, 13, true},
		{"* * 29 2 *", 2024, 2, 29, true},
		{"* * * * 0", 2024, 5, 12, true},
		{"* * * * 7", 2024, 5, 12, true},
		{"* * * * 6", 2024, 5, 12, false},
		{"* * * * *", 1, 1, 1, true},
		{"* * * * mon", 1, 1, 1, true},
		{"* * * * *", 9999, 12, 31, true},
		{"* * * * fri", 9999, 12, 31, true},
		// There is no such day.
		{"* * * * *", 2023, 2, 29, false},
		{"* * 29 2 *", 2023, 2, 29, false},
		{"* * 30 2 *", 2024, 2, 30, false},
		{"* * 31 * *", 2024, 4, 31, false},
		{"* * * * *", 0, 1, 1, false},
		{"* * * * *", 10000, 1, 1, false},
	} {
		c, e := Parse(x.s)
		if got := Day(c, x.y, x.m, x.d); e != api.OK || got != x.want {
			t.Errorf("Day(%q, %d, %d, %d) = %v, want %v", x.s, x.y, x.m, x.d, got, x.want)
		}
	}
}

// isDay is what Day should be, of a day that there is.
func isDay(c api.Cron, at time.Time) bool {
	month := slices.Contains(c.L[api.Month], int(at.Month()))
	day := slices.Contains(c.L[api.Mday], at.Day())
	week := slices.Contains(c.L[api.Wday], int(at.Weekday()))
	if !c.Star[api.Mday] && !c.Star[api.Wday] {
		return month && (day || week)
	}
	return month && day && week
}

func TestDayAsTheLibraryHasIt(t *testing.T) {
	source := rand.New(rand.NewSource(54))
	for range 300 {
		c := some(source)
		start := time.Date(1+source.Intn(9998), time.Month(1+source.Intn(12)), 1, 0, 0, 0, 0, time.UTC)
		for i := range 366 {
			at := start.AddDate(0, 0, i)
			if at.Year() > 9999 {
				break
			}
			if got, want := Day(c, at.Year(), int(at.Month()), at.Day()), isDay(c, at); got != want {
				t.Fatalf("Day(%v, %v) = %v", c, at, got)
			}
		}
	}
}

func TestDayWithWildNumbers(t *testing.T) {
	for _, n := range wild {
		for _, m := range wild {
			for _, d := range wild {
				at := time.Date(2024, time.Month(m), d, 0, 0, 0, 0, time.UTC)
				// The library moves what there is not to another day.
				is := m >= 1 && m <= 12 && d >= 1 && d <= 31 && int(at.Month()) == m
				if got := Day(every(), 2024, m, d); got != is {
					t.Errorf("Day(2024, %d, %d) = %v", m, d, got)
				}
				if Day(every(), n, m, d) && (n < 1 || n > 9999 || m < 1 || m > 12 || d < 1 || d > 31) {
					t.Errorf("Day(%d, %d, %d) = true", n, m, d)
				}
			}
		}
	}
}

func TestMatch(t *testing.T) {
	at := api.Civil{Year: 2024, Month: 5, Day: 13, Hour: 6, Min: 30}
	for _, x := range []struct {
		s    string
		want bool
	}{
		{"30 6 13 5 1", true},
		{"* * * * *", true},
		{"30 * * * *", true},
		{"* 6 * * *", true},
		{"29 * * * *", false},
		{"31 6 13 5 1", false},
		{"30 5 13 5 1", false},
		{"30 7 13 5 1", false},
		{"30 6 13 4 1", false},
		{"30 6 12 5 2", false},
		{"30 6 12 5 1", true},
		{"30 6 13 5 2", true},
		{"30 6 12 5 *", false},
		{"30 6 * 5 2", false},
	} {
		c, e := Parse(x.s)
		if got := Match(c, at); e != api.OK || got != x.want {
			t.Errorf("Match(%q) = %v, want %v", x.s, got, x.want)
		}
	}
}

func TestMatchOfNoDayAndTime(t *testing.T) {
	at := api.Civil{Year: 2024, Month: 2, Day: 29, Hour: 23, Min: 59}
	if !Match(every(), at) {
		t.Error("the last minute of a day")
	}
	for _, n := range wild {
		for i, x := range []struct {
			year, month, day, hour, min, sec int
			want                             bool
		}{
			{n, 2, 28, 23, 59, 0, n >= 1 && n <= 9999},
			{2024, n, 29, 23, 59, 0, n >= 1 && n <= 12},
			{2024, 2, n, 23, 59, 0, n >= 1 && n <= 29},
			{2024, 2, 29, n, 59, 0, n >= 0 && n <= 23},
			{2024, 2, 29, 23, n, 0, n >= 0 && n <= 59},
			{2024, 2, 29, 23, 59, n, n == 0},
		} {
			c := api.Civil{Year: x.year, Month: x.month, Day: x.day, Hour: x.hour, Min: x.min, Sec: x.sec}
			if got := Match(every(), c); got != x.want {
				t.Errorf("%d: Match(%v) = %v", i, c, got)
			}
		}
	}
	for _, x := range []api.Civil{{}, {Year: 2023, Month: 2, Day: 29}, {Year: 2024, Month: 4, Day: 31}} {
		if Match(every(), x) {
			t.Errorf("Match(%v) = true", x)
		}
	}
}

func TestMatchOfEachMinute(t *testing.T) {
	source := rand.New(rand.NewSource(55))
	for range 50 {
		c := some(source)
		day := time.Date(2024, 1, 1+source.Intn(366), 0, 0, 0, 0, time.UTC)
		for i := range 24 * 60 {
			at := day.Add(time.Duration(i) * time.Minute)
			want := isDay(c, at) && slices.Contains(c.L[api.Hour], at.Hour()) && slices.Contains(c.L[api.Minute], at.Minute())
			x := api.Civil{Year: at.Year(), Month: int(at.Month()), Day: at.Day(), Hour: at.Hour(), Min: at.Minute()}
			if Match(c, x) != want {
				t.Fatalf("Match(%v, %v) = %v", c, x, !want)
			}
			x.Sec = 1 + source.Intn(59)
			if Match(c, x) {
				t.Fatalf("Match(%v, %v) = true", c, x)
			}
		}
	}
}

func TestNoScheduleHasNoDay(t *testing.T) {
	for _, c := range bad() {
		for d := 1; d <= 31; d++ {
			if Day(c, 2024, 5, d) || Match(c, api.Civil{Year: 2024, Month: 5, Day: d}) {
				t.Errorf("%v has May %d", c, d)
			}
		}
	}
}

// P5.5

func TestWhatIsWrittenIsParsed(t *testing.T) {
	source := rand.New(rand.NewSource(53))
	list := []api.Cron{every()}
	for i, b := range bounds {
		list = append(list, with(i, false, numbers(b[0], b[1])...), with(i, false, b[0]), with(i, false, b[1]))
	}
	long := with(api.Minute, false, numbers(0, 59)...)
	long.L[api.Hour], long.Star[api.Hour] = numbers(0, 23), false
	list = append(list, long)
	for range 20000 {
		list = append(list, some(source))
	}
	for _, c := range list {
		s, e := Write(c)
		if e != api.OK {
			t.Fatalf("Write(%v): %d", c, e)
		}
		back, e := Parse(s)
		if len(s) > api.MaxCron {
			// All minutes and all hours, number by number, are more than a text may have.
			if e != api.ErrOver {
				t.Fatalf("Parse(%q): %d, want ErrOver", s, e)
			}
			continue
		}
		if e != api.OK || !Same(back, c) || !equal(back, c) {
			t.Fatalf("Parse(%q) = %v, %d, want %v", s, back, e, c)
		}
	}
}

// R3, R5

func TestAnswersAreTheCallersOwn(t *testing.T) {
	const s = "*/20 1,2 * jan-mar 7,1"
	first, _ := Parse(s)
	kept := clone(first)
	for i := range first.L {
		// What is written behind a list must not be seen in another one, either.
		_ = append(first.L[i], 99, 99, 99, 99, 99, 99, 99, 99)
	}
	if !equal(first, kept) {
		t.Errorf("lists share memory: %v", first)
	}
	for i := range first.L {
		for j := range first.L[i] {
			first.L[i][j] = -1
		}
	}
	if again, e := Parse(s); e != api.OK || !equal(again, kept) {
		t.Errorf("Parse(%q) = %v, %d, want %v", s, again, e, kept)
	}
}

func TestArgumentsStayAsTheyWere(t *testing.T) {
	for _, c := range append(bad(), every(), with(api.Wday, false, 1, 3)) {
		kept := clone(c)
		May(c)
		Same(c, c)
		Write(c)
		Day(c, 2024, 5, 13)
		Match(c, api.Civil{Year: 2024, Month: 5, Day: 13})
		if !equal(c, kept) {
			t.Fatalf("%v became %v", kept, c)
		}
	}
}
