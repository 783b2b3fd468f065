package tick_test

import (
	"math"
	"math/big"
	"testing"

	"liftwell/api"
	"liftwell/tick"
)

const top = api.MaxTime

// numbers are ordinary ones, and all the edges with their neighbours.
var numbers = []int{
	math.MinInt, math.MinInt + 1, -top - 1, -top, -top + 1, math.MinInt32, -2, -1,
	0, 1, 2, 3, 5, 7, 10, 48, 100, 1000,
	1<<20 - 1, 1 << 20, 1<<20 + 1, math.MaxInt32, math.MaxInt32 + 1,
	1<<32 - 1, 1 << 32, 1<<32 + 1, top/3 - 1, top / 3, top/3 + 1, top/2 - 1, top / 2, top/2 + 1,
	top - 1, top, top + 1, 2 * top, 1<<61 - 1, 1 << 61, 1 << 62, math.MaxInt - 1, math.MaxInt,
}

// tries are few, as many as bring 1 to MaxTime, about a word's bits, and very many.
var tries = []int{
	math.MinInt, math.MinInt + 1, -100, -2, -1, 0, 1, 2, 3, 4, 19, 20, 21, 38, 39, 40, 41, 42,
	62, 63, 64, 65, 127, 128, 129, 255, 256, 257, 1000, 1 << 32, 1<<32 + 1, math.MaxInt - 1, math.MaxInt,
}

// held is the number between 0 and MaxTime that is nearest to n, which has no bound.
func held(n *big.Int) int {
	if n.Sign() < 0 {
		return 0
	}
	if n.Cmp(big.NewInt(top)) > 0 {
		return top
	}
	return int(n.Int64())
}

func clamped(n int) *big.Int {
	return big.NewInt(int64(held(big.NewInt(int64(n)))))
}

// pause doubles one by one, and stops only where more of it can't be seen.
func pause(base, most, tries int) int {
	n, limit := clamped(base), clamped(most)
	for i := 0; i < tries && n.Sign() > 0 && n.Cmp(limit) < 0; i++ {
		n.Add(n, n)
	}
	if n.Cmp(limit) > 0 {
		n = limit
	}
	return held(n)
}

func TestClamp(t *testing.T) {
	for _, x := range []struct{ n, want int }{
		{0, 0}, {1, 1}, {2, 2}, {1000, 1000}, {1 << 31, 1 << 31}, {1<<32 + 5, 1<<32 + 5},
		{-1, 0}, {-1000, 0}, {-top, 0}, {-top - 1, 0}, {math.MinInt, 0}, {math.MinInt + 1, 0},
		{top - 1, 1<<40 - 1}, {top, 1 << 40}, {top + 1, 1 << 40}, {2 * top, 1 << 40},
		{math.MaxInt - 1, 1 << 40}, {math.MaxInt, 1 << 40},
	} {
		if got := tick.Clamp(x.n); got != x.want {
			t.Errorf("Clamp(%d) = %d, want %d", x.n, got, x.want)
		}
	}
}

func TestAdd(t *testing.T) {
	for _, x := range []struct{ a, b, want int }{
		{0, 0, 0}, {1, 2, 3}, {40, 2, 42}, {0, 9, 9},
		{top, 1, top}, {top - 1, 1, top}, {top - 2, 1, top - 1}, {top / 2, top / 2, top}, {top, top, top},
		{top + 1, 0, top}, {top + 1, top + 1, top},
		// Each is clamped ahead of the sum: what is below 0 takes nothing away.
		{-5, 7, 7}, {7, -5, 7}, {-5, -7, 0}, {top, -1, top}, {top + 5, -5, top}, {math.MaxInt, math.MinInt, top},
		{math.MaxInt, 1, top}, {math.MaxInt, math.MaxInt, top}, {1 << 62, 1 << 62, top},
		{math.MinInt, -1, 0}, {math.MinInt, math.MinInt, 0}, {math.MinInt, 12, 12},
	} {
		if got := tick.Add(x.a, x.b); got != x.want {
			t.Errorf("Add(%d, %d) = %d, want %d", x.a, x.b, got, x.want)
		}
	}
}

func TestMul(t *testing.T) {
	for _, x := range []struct{ a, b, want int }{
		{0, 0, 0}, {6, 7, 42}, {1, 9, 9}, {9, 1, 9}, {0, 9, 0}, {9, 0, 0},
		{top, 1, top}, {1, top, top}, {top, 0, 0}, {0, top, 0}, {top, 2, top}, {2, top, top}, {top, top, top},
		{1 << 20, 1 << 20, top}, {1<<20 - 1, 1 << 20, top - 1<<20}, {1<<20 + 1, 1 << 20, top},
		{3, top / 3, top - 1}, {top / 3, 3, top - 1}, {3, top/3 + 1, top}, {top/3 + 1, 3, top},
		{2, top/2 - 1, top - 2}, {2, top / 2, top}, {2, top/2 + 1, top},
		// Products that are 0, small or below 0 in a word.
		{1 << 32, 1 << 32, top}, {1 << 40, 1 << 24, top}, {1<<32 + 1, 1<<32 + 1, top}, {1 << 32, 1 << 31, top},
		{3037000500, 3037000500, top},
		// Each is clamped ahead of the product: two below 0 make 0.
		{-3, 7, 0}, {3, -7, 0}, {-3, -7, 0}, {math.MinInt, -1, 0}, {-1, math.MinInt, 0},
		{math.MinInt, math.MinInt, 0}, {math.MaxInt, math.MinInt, 0}, {math.MaxInt, 0, 0},
		{math.MaxInt, 1, top}, {1, math.MaxInt, top}, {math.MaxInt, math.MaxInt, top},
	} {
		if got := tick.Mul(x.a, x.b); got != x.want {
			t.Errorf("Mul(%d, %d) = %d, want %d", x.a, x.b, got, x.want)
		}
	}
}

func TestLate(t *testing.T) {
	for _, x := range []struct {
		now, until int
		want       bool
	}{
		{0, 0, true}, {5, 5, true}, {6, 5, true}, {4, 5, false}, {0, 1, false}, {1, 0, true},
		{-1, 0, true}, {-1, 1, false}, {0, -1, true}, {-7, -3, true}, {-3, -7, true},
		{math.MinInt, math.MaxInt, false}, {math.MaxInt, math.MinInt, true}, {math.MinInt, 0, true},
		{top - 1, top, false}, {top, top, true}, {top, top - 1, true},
		{top, top + 1, true}, {top, math.MaxInt, true}, {top - 1, top + 1, false}, {top + 1, top + 2, true},
	} {
		if got := tick.Late(x.now, x.until); got != x.want {
			t.Errorf("Late(%d, %d) = %t, want %t", x.now, x.until, got, x.want)
		}
	}
}

func TestPause(t *testing.T) {
	for _, x := range []struct{ base, most, tries, want int }{
		{3, 100, 0, 3}, {3, 100, 1, 6}, {3, 100, 4, 48}, {3, 100, 5, 96}, {3, 100, 6, 100}, {3, 96, 5, 96},
		{3, 2, 0, 2}, {3, 3, 0, 3}, {3, 3, 9, 3}, {3, 0, 4, 0}, {3, -1, 4, 0}, {3, math.MinInt, 4, 0},
		{3, 100, -1, 3}, {3, 100, math.MinInt, 3}, {200, 100, -1, 100},
		{0, 100, 0, 0}, {0, 100, 5, 0}, {0, 100, math.MaxInt, 0}, {-4, 100, 5, 0},
		{math.MinInt, 100, 1, 0}, {math.MinInt, math.MaxInt, math.MaxInt, 0},
		{1, top, 39, top / 2}, {1, top, 40, top}, {1, top, 41, top}, {1, top - 1, 40, top - 1},
		{3, top, 38, 3 << 38}, {3, top, 39, top}, {5, math.MaxInt, 37, 5 << 37}, {5, math.MaxInt, 38, top},
		{1, math.MaxInt, 62, top}, {1, math.MaxInt, 63, top}, {1, math.MaxInt, 64, top}, {1, math.MaxInt, 65, top},
		{2, 100, 63, 100}, {4, 100, 62, 100}, {1, 100, 1 << 32, 100}, {1, 100, math.MaxInt, 100},
		{top, top, 0, top}, {top, top, 1, top}, {top, 7, math.MaxInt, 7}, {top + 1, top + 1, 0, top},
		{math.MaxInt, math.MaxInt, 0, top}, {math.MaxInt, math.MaxInt, math.MaxInt, top},
		{1 << 62, 9, 1, 9}, {1 << 62, 9, 2, 9},
	} {
		if got := tick.Pause(x.base, x.most, x.tries); got != x.want {
			t.Errorf("Pause(%d, %d, %d) = %d, want %d", x.base, x.most, x.tries, got, x.want)
		}
	}
}

// TestChapter has the chapter's example.
func TestChapter(t *testing.T) {
	if got := tick.Add(api.MaxTime, 1); got != api.MaxTime {
		t.Errorf("Add(MaxTime, 1) = %d", got)
	}
	if got := tick.Pause(3, 100, 4); got != 48 {
		t.Errorf("Pause(3, 100, 4) = %d", got)
	}
}

// TestAgainstNumbersWithoutBound holds every pair and triple of edges against numbers that have no bound.
func TestAgainstNumbersWithoutBound(t *testing.T) {
	for _, a := range numbers {
		if got, want := tick.Clamp(a), held(big.NewInt(int64(a))); got != want {
			t.Errorf("Clamp(%d) = %d, want %d", a, got, want)
		}
		for _, b := range numbers {
			x, y := clamped(a), clamped(b)
			if got, want := tick.Add(a, b), held(new(big.Int).Add(x, y)); got != want {
				t.Errorf("Add(%d, %d) = %d, want %d", a, b, got, want)
			}
			if got, want := tick.Mul(a, b), held(new(big.Int).Mul(x, y)); got != want {
				t.Errorf("Mul(%d, %d) = %d, want %d", a, b, got, want)
			}
			if got, want := tick.Late(a, b), x.Cmp(y) >= 0; got != want {
				t.Errorf("Late(%d, %d) = %t, want %t", a, b, got, want)
			}
			for _, n := range tries {
				if got, want := tick.Pause(a, b, n), pause(a, b, n); got != want {
					t.Errorf("Pause(%d, %d, %d) = %d, want %d", a, b, n, got, want)
				}
			}
		}
	}
}
