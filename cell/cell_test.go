package cell_test

import (
	"math"
	"math/big"
	"testing"

	"liftwell/cell"
)

// numbers are ordinary ones, and all edges.
var numbers = []int{math.MinInt, math.MinInt + 1, -20000, -10001, -10000, -9999, -5, -1, 0, 1, 2, 5, 99, 100, 104, 105, 106,
	4999, 5000, 5001, 9994, 9995, 9998, 9999, 10000, 10001, 10002, 10005, 20000, 1 << 32, 1<<32 + 100, math.MaxInt - 1, math.MaxInt}

func mass(n int) *big.Int {
	if n < 0 {
		return big.NewInt(0)
	}
	if n > 10000 {
		return big.NewInt(10000)
	}
	return big.NewInt(int64(n))
}

func TestChapter(t *testing.T) {
	if !cell.Near(104, 100, 5) {
		t.Error("Near(104, 100, 5)")
	}
}

func TestMass(t *testing.T) {
	for _, x := range []struct{ n, want int }{
		{0, 0}, {1, 1}, {-1, 0}, {75, 75}, {9999, 9999}, {10000, 10000}, {10001, 10000}, {10002, 10000},
		{1 << 32, 10000}, {-1 << 32, 0}, {math.MinInt, 0}, {math.MaxInt, 10000},
	} {
		if got := cell.Mass(x.n); got != x.want {
			t.Errorf("Mass(%d) = %d, want %d", x.n, got, x.want)
		}
	}
}

func TestOver(t *testing.T) {
	for _, x := range []struct {
		load, limit int
		want        bool
	}{
		{100, 100, false}, {101, 100, true}, {99, 100, false}, {0, 0, false}, {1, 0, true}, {1, -1, true}, {0, -1, false}, {-1, -5, false},
		{10000, 9999, true}, {10001, 10000, false}, {20000, 10001, false}, {math.MaxInt, math.MinInt, true}, {math.MinInt, math.MaxInt, false},
		{math.MaxInt, 10000, false}, {math.MaxInt, 9999, true},
	} {
		if got := cell.Over(x.load, x.limit); got != x.want {
			t.Errorf("Over(%d, %d) = %t", x.load, x.limit, got)
		}
	}
}

func TestNear(t *testing.T) {
	for _, x := range []struct {
		load, mass, slack int
		want              bool
	}{
		{105, 100, 5, true}, {106, 100, 5, false}, {95, 100, 5, true}, {94, 100, 5, false}, {100, 100, 0, true}, {101, 100, 0, false}, {99, 100, 0, false},
		{100, 100, -5, true}, {101, 100, -1, false}, {-50, 0, 0, true}, {-50, 5, 5, true}, {-50, 6, 5, false}, {5, -50, 5, true}, {6, -50, 5, false},
		{20000, 10000, 0, true}, {9995, 20000, 5, true}, {9994, 20000, 5, false}, {0, 10000, 10000, true}, {0, 10000, 9999, false}, {0, 10000, 20000, true},
		{math.MinInt, math.MaxInt, 10000, true}, {math.MinInt, math.MaxInt, 9999, false}, {math.MaxInt, math.MinInt, math.MaxInt, true},
		{math.MaxInt, math.MinInt, math.MinInt, false}, {math.MinInt, math.MinInt, math.MinInt, true},
	} {
		if got := cell.Near(x.load, x.mass, x.slack); got != x.want {
			t.Errorf("Near(%d, %d, %d) = %t", x.load, x.mass, x.slack, got)
		}
	}
}

func TestAllEdges(t *testing.T) {
	for _, a := range numbers {
		if got := cell.Mass(a); int64(got) != mass(a).Int64() {
			t.Errorf("Mass(%d) = %d", a, got)
		}
		for _, b := range numbers {
			if got, want := cell.Over(a, b), mass(a).Cmp(mass(b)) > 0; got != want {
				t.Errorf("Over(%d, %d) = %t", a, b, got)
			}
			apart := new(big.Int).Sub(mass(a), mass(b))
			for _, c := range numbers {
				if got, want := cell.Near(a, b, c), apart.CmpAbs(mass(c)) <= 0; got != want {
					t.Errorf("Near(%d, %d, %d) = %t", a, b, c, got)
				}
			}
		}
	}
}
