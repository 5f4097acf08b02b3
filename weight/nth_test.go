package weight_test

import (
	"math"
	"testing"

	"winnowing/probe"
	"winnowing/weight"
)

const billion = 1000000000

// P6.2, ordinary numbers, the edges, and numbers beyond them.
func TestNth(t *testing.T) {
	for _, c := range []struct {
		a, b, i int
		want    bool
	}{
		{2, 1, 1, true}, {2, 1, 2, false}, {2, 1, 99, true}, {2, 0, 0, true}, {2, 0, 2, true}, {2, 0, 1, false}, {1, 0, 7, true}, {0, 1, 1, true}, {0, 1, 2, false}, {0, 0, 0, true},
		{2, 1, -1, false}, {1, 0, -1, false}, {3, 5, 2, false}, {3, -5, 1, true}, {3, -1, 2, true}, {-1, 3, 3, true}, {-1, 3, 1, true}, {-1, 3, 4, false}, {-2, 5, 3, true}, {-2, 5, 2, false}, {-2, 5, 7, false},
		{-3, 1, -8, true}, {-3, 1, -7, false}, {0, -4, -4, true}, {0, -4, 4, false}, {5, 5, 5, true}, {-5, 5, 5, true},
		{1, -billion, billion, true}, {2, -billion, billion, true}, {-1, billion, -billion, true}, {1, billion, -billion, false}, {-1, -billion, billion, false},
		{billion, -billion, billion, true}, {billion, -billion, 0, true}, {billion, -billion, 1, false}, {-billion, billion, -billion, true}, {billion, billion, billion, true}, {-billion, -billion, -billion, true},
		{0, billion, billion, true}, {0, -billion, -billion, true}, {billion, 0, billion, true}, {-billion, 0, -billion, true}, {-billion, 0, billion, false},
		{0, billion + 1, billion + 1, false}, {0, -billion - 1, -billion - 1, false}, {1, 0, billion + 1, false}, {-1, 0, -billion - 1, false},
		{1, billion + 1, billion + 1, false}, {1, -billion - 1, 0, false}, {-1, billion + 1, 0, false}, {billion + 1, 0, 0, false}, {-billion - 1, 0, 0, false}, {billion + 1, -1, billion, false}, {-billion - 1, 1, -billion, false},
	} {
		if got := weight.Nth(c.a, c.b, c.i); got != c.want {
			t.Errorf("Nth(%d, %d, %d) is %t", c.a, c.b, c.i, got)
		}
	}
}

// P6.2 by its words: every n is tried, as far as the product can still meet the difference.
func TestNthEach(t *testing.T) {
	const far = 12
	for a := -far; a <= far; a++ {
		for b := -far; b <= far; b++ {
			for i := -far; i <= far; i++ {
				want := false
				for n := 0; n <= 2*far; n++ {
					want = want || a*n+b == i
				}
				if weight.Nth(a, b, i) != want {
					t.Fatalf("Nth(%d, %d, %d) is %t", a, b, i, !want)
				}
			}
		}
	}
}

// P6.2: from an n, and so from the answer, for numbers of every size.
func TestNthOfEverySize(t *testing.T) {
	var c probe.Chance = 6
	within := func(most int) int { return c.Below(2*most+1) - most }
	found := 0
	for range 200000 {
		a, n, b := within(1<<c.Below(30)), c.Below(1<<c.Below(30)), within(billion)
		i := a*n + b
		if i < -billion || i > billion {
			if weight.Nth(a, b, i) {
				t.Fatalf("Nth(%d, %d, %d)", a, b, i)
			}
			continue
		}
		found++
		if !weight.Nth(a, b, i) {
			t.Fatalf("Nth(%d, %d, %d) is false, with n = %d", a, b, i, n)
		}
		// Between two neighbors lies none.
		if next := i + 1; next <= billion && a != 1 && a != -1 && weight.Nth(a, b, next) {
			t.Fatalf("Nth(%d, %d, %d) with n = %d, and also %d", a, b, i, n, next)
		}
	}
	if found < 50000 {
		t.Errorf("only %d", found)
	}
}

// P6.2 and R1: numbers beyond the limit, each in every place.
func TestNthBeyond(t *testing.T) {
	all := []int{math.MinInt, math.MinInt + 1, -1 << 32, -billion - 1, -billion, -1, 0, 1, billion, billion + 1, 1 << 32, math.MaxInt - 1, math.MaxInt}
	isBeyond := func(n int) bool { return n < -billion || n > billion }
	for _, a := range all {
		for _, b := range all {
			for _, i := range all {
				if got := weight.Nth(a, b, i); got && (isBeyond(a) || isBeyond(b) || isBeyond(i)) {
					t.Errorf("Nth(%d, %d, %d)", a, b, i)
				}
			}
		}
	}
}
