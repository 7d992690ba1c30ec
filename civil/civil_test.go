package civil

import (
	"math"
	"testing"

	"mailcoach/api"
)

// wild holds numbers that no year, month, day or day's number should be undone by.
var wild = []int{math.MinInt, math.MinInt + 1, -1 << 41, -1<<40 - 1, -1 << 40, -719163, -719162, -401, -400, -100, -4, -1, 0, 1, 2, 12, 13, 28, 29, 30, 31, 32, 99, 100, 400, 1970, 9999, 10000, 2932896, 2932897, 1 << 40, 1<<40 + 1, 1 << 41, math.MaxInt - 1, math.MaxInt}

// P1.1

func TestLeap(t *testing.T) {
	for _, x := range []struct {
		y    int
		want bool
	}{
		{2024, true}, {2023, false}, {2022, false}, {2021, false},
		{1900, false}, {2100, false}, {2000, true}, {1600, true}, {400, true},
		{4, true}, {100, false}, {1, false}, {9996, true}, {9999, false},
		{0, true}, {-4, true}, {-100, false}, {-400, true}, {-1, false}, {10000, true},
		{math.MaxInt, false}, {math.MinInt, true},
	} {
		if got := Leap(x.y); got != x.want {
			t.Errorf("Leap(%d) = %v, want %v", x.y, got, x.want)
		}
	}
}

func TestDaysOfEachMonth(t *testing.T) {
	usual := []int{31, 28, 31, 30, 31, 30, 31, 31, 30, 31, 30, 31}
	for y, february := range map[int]int{2023: 28, 2024: 29, 1900: 28, 2000: 29, 1: 28, 9999: 28, 0: 29, -4: 29, -1: 28, 10000: 29} {
		for i, want := range usual {
			if i == 1 {
				want = february
			}
			if got := Days(y, i+1); got != want {
				t.Errorf("Days(%d, %d) = %d, want %d", y, i+1, got, want)
			}
		}
	}
}

func TestDaysOfNoMonth(t *testing.T) {
	for _, m := range wild {
		if m >= 1 && m <= 12 {
			continue
		}
		if got := Days(2024, m); got != 0 {
			t.Errorf("Days(2024, %d) = %d, want 0", m, got)
		}
	}
}

// P1.2

func TestOrdAndDate(t *testing.T) {
	for _, x := range []struct{ y, m, d, n int }{
		{1970, 1, 1, 0}, {1970, 1, 2, 1}, {1969, 12, 31, -1}, {1970, 12, 31, 364}, {1971, 1, 1, 365},
		{2000, 2, 28, 11015}, {2000, 2, 29, 11016}, {2000, 3, 1, 11017}, {2000, 12, 31, 11322}, {2001, 1, 1, 11323},
		{1900, 2, 28, -25509}, {1900, 3, 1, -25508},
		{1, 1, 1, -719162}, {1, 12, 31, -718798}, {2, 1, 1, -718797},
		{9999, 1, 1, 2932532}, {9999, 12, 31, 2932896},
		{400, 12, 31, -573066}, {401, 1, 1, -573065},
	} {
		if n, e := Ord(x.y, x.m, x.d); n != x.n || e != api.OK {
			t.Errorf("Ord(%d, %d, %d) = %d, %d, want %d", x.y, x.m, x.d, n, e, x.n)
		}
		if y, m, d, e := Date(x.n); y != x.y || m != x.m || d != x.d || e != api.OK {
			t.Errorf("Date(%d) = %d, %d, %d, %d, want %d, %d, %d", x.n, y, m, d, e, x.y, x.m, x.d)
		}
	}
}

func TestOrdOfNoDay(t *testing.T) {
	for _, x := range [][3]int{
		{0, 1, 1}, {0, 12, 31}, {-1, 1, 1}, {10000, 1, 1}, {10000, 2, 29},
		{2024, 0, 1}, {2024, 13, 1}, {2024, -1, 1},
		{2024, 1, 0}, {2024, 1, -1}, {2024, 1, 32}, {2024, 2, 30}, {2023, 2, 29}, {1900, 2, 29},
		{2024, 4, 31}, {2024, 6, 31}, {2024, 9, 31}, {2024, 11, 31}, {2024, 12, 32},
		{2024, 0, 0}, {2024, 13, 0}, {0, 0, 0},
	} {
		wantNoDay(t, x[0], x[1], x[2])
	}
}

func wantNoDay(t *testing.T, y, m, d int) {
	t.Helper()
	if n, e := Ord(y, m, d); n != 0 || e != api.ErrArg {
		t.Errorf("Ord(%d, %d, %d) = %d, %d, want 0, ErrArg", y, m, d, n, e)
	}
	if got := Yday(y, m, d); got != 0 {
		t.Errorf("Yday(%d, %d, %d) = %d, want 0", y, m, d, got)
	}
}

func TestDateOfNoNumber(t *testing.T) {
	for _, n := range wild {
		if n >= -719162 && n <= 2932896 {
			continue
		}
		if y, m, d, e := Date(n); y != 0 || m != 0 || d != 0 || e != api.ErrArg {
			t.Errorf("Date(%d) = %d, %d, %d, %d, want noughts and ErrArg", n, y, m, d, e)
		}
	}
}

// P1.3

func TestWday(t *testing.T) {
	for _, x := range []struct{ n, want int }{
		{0, 4}, {1, 5}, {2, 6}, {3, 0}, {4, 1}, {7, 4}, {-1, 3}, {-4, 0}, {-5, 6}, {-7, 4},
		{11017, 3}, {-719162, 1}, {2932896, 5},
		// Beyond the years, too: 2^40 leaves 2 behind sevens.
		{-719163, 0}, {2932897, 6}, {1 << 40, 6}, {-1 << 40, 2}, {1<<40 - 1, 5}, {-1<<40 + 1, 3},
		{1<<40 + 1, 0}, {1<<40 + 2, 0}, {-1<<40 - 1, 0}, {-1<<40 - 3, 0}, {1 << 41, 0}, {math.MaxInt, 0}, {math.MinInt, 0},
	} {
		if got := Wday(x.n); got != x.want {
			t.Errorf("Wday(%d) = %d, want %d", x.n, got, x.want)
		}
	}
}

func TestYday(t *testing.T) {
	for _, x := range []struct{ y, m, d, want int }{
		{2000, 1, 1, 1}, {2000, 1, 31, 31}, {2000, 2, 1, 32}, {2000, 2, 29, 60}, {2000, 3, 1, 61}, {2000, 12, 31, 366},
		{2023, 2, 28, 59}, {2023, 3, 1, 60}, {2023, 12, 31, 365}, {1900, 3, 1, 60}, {1900, 12, 31, 365},
		{1, 1, 1, 1}, {9999, 12, 31, 365},
	} {
		if got := Yday(x.y, x.m, x.d); got != x.want {
			t.Errorf("Yday(%d, %d, %d) = %d, want %d", x.y, x.m, x.d, got, x.want)
		}
	}
}

// P1.4: the calendar is gone through day by day, with a count of its own.

func TestDayBehindADay(t *testing.T) {
	n, w := -719162, 1
	for y := 1; y <= 9999; y++ {
		yday := 1
		for m := 1; m <= 12; m++ {
			for d := 1; d <= Days(y, m); d++ {
				if got, e := Ord(y, m, d); got != n || e != api.OK {
					t.Fatalf("Ord(%d, %d, %d) = %d, %d, want %d", y, m, d, got, e, n)
				}
				if gy, gm, gd, e := Date(n); gy != y || gm != m || gd != d || e != api.OK {
					t.Fatalf("Date(%d) = %d, %d, %d, %d, want %d, %d, %d", n, gy, gm, gd, e, y, m, d)
				}
				if got := Wday(n); got != w {
					t.Fatalf("Wday(%d) = %d, want %d", n, got, w)
				}
				if got := Yday(y, m, d); got != yday {
					t.Fatalf("Yday(%d, %d, %d) = %d, want %d", y, m, d, got, yday)
				}
				n, w, yday = n+1, (w+1)%7, yday+1
			}
		}
		if yday-1 != 365 && !(yday-1 == 366 && Leap(y)) {
			t.Fatalf("the year %d has %d days", y, yday-1)
		}
	}
	if n != 2932897 {
		t.Fatalf("the last number is %d, want 2932896", n-1)
	}
}

// P1, R1: no argument panics; what is no day is told so.

func TestAnyArguments(t *testing.T) {
	for _, y := range wild {
		Leap(y)
		Wday(y)
		Date(y)
		for _, m := range wild {
			Days(y, m)
			for _, d := range wild {
				if y < 1 || y > 9999 || m < 1 || m > 12 || d < 1 || d > Days(y, m) {
					wantNoDay(t, y, m, d)
				}
			}
		}
	}
}
