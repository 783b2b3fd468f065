package serial_test

import (
	"math"
	"math/big"
	"testing"

	"liftwell/serial"
)

// edges are numbers about each place where something turns, of all sizes.
func edges() []int {
	list := []int{math.MinInt, math.MinInt + 1, math.MinInt + 2, math.MaxInt - 1, math.MaxInt, 7, 1000, -1000, 40000}
	for _, about := range []int{0, 32768, 65536, -32768, -65536, 98304, 131072, 1 << 31, -1 << 31, 1 << 32, -1 << 32, 1 << 62} {
		for n := about - 2; n <= about+2; n++ {
			list = append(list, n)
		}
	}
	return list
}

// held is n modulo 65536, worked out without a bound.
func held(n *big.Int) int {
	return int(new(big.Int).Mod(n, big.NewInt(65536)).Int64())
}

func near(a, b int) int {
	n := held(new(big.Int).Sub(big.NewInt(int64(b)), big.NewInt(int64(a))))
	if n > 32767 {
		n -= 65536
	}
	return n
}

func TestChapter(t *testing.T) {
	if got := serial.Near(65535, 1); got != 2 {
		t.Errorf("Near(65535, 1) = %d", got)
	}
}

func TestNext(t *testing.T) {
	for _, x := range []struct{ n, want int }{
		{0, 1}, {1, 2}, {254, 255}, {255, 256}, {32766, 32767}, {32767, 32768}, {32768, 32769},
		{65534, 65535}, {65535, 0}, {65536, 1}, {65537, 2}, {131071, 0},
		{-1, 0}, {-2, 65535}, {-65536, 1}, {-65537, 0}, {-32768, 32769},
		{math.MaxInt, 0}, {math.MaxInt - 1, 65535}, {math.MinInt, 1}, {math.MinInt + 1, 2},
	} {
		if got := serial.Next(x.n); got != x.want {
			t.Errorf("Next(%d) = %d, want %d", x.n, got, x.want)
		}
	}
	for _, n := range edges() {
		want := held(new(big.Int).Add(big.NewInt(int64(n)), big.NewInt(1)))
		if got := serial.Next(n); got != want {
			t.Errorf("Next(%d) = %d, want %d", n, got, want)
		}
	}
}

func TestNextGoesRound(t *testing.T) {
	n := 0
	for i := range 3 * 65536 {
		if n != i%65536 {
			t.Fatalf("%d times Next of 0: %d", i, n)
		}
		n = serial.Next(n)
	}
}

func TestNear(t *testing.T) {
	for _, x := range []struct{ a, b, want int }{
		{0, 0, 0}, {5, 5, 0}, {5, 8, 3}, {8, 5, -3}, {65535, 0, 1}, {0, 65535, -1}, {65530, 4, 10}, {4, 65530, -10},
		{0, 32767, 32767}, {0, 32768, -32768}, {0, 32769, -32767}, {32767, 0, -32767}, {32768, 0, -32768}, {32769, 0, 32767},
		{40000, 40000 - 32768, -32768}, {1, 32769, -32768}, {1, 32768, 32767},
		{65536, 0, 0}, {0, 65536, 0}, {-1, 65535, 0}, {-1, 0, 1}, {0, -1, -1}, {-65536, 65536, 0}, {-32768, 32768, 0},
		{math.MaxInt, math.MinInt, 1}, {math.MinInt, math.MaxInt, -1}, {math.MinInt, 0, 0}, {math.MaxInt, 0, 1},
	} {
		if got := serial.Near(x.a, x.b); got != x.want {
			t.Errorf("Near(%d, %d) = %d, want %d", x.a, x.b, got, x.want)
		}
	}
}

func TestNewer(t *testing.T) {
	for _, x := range []struct {
		a, b int
		want bool
	}{
		{0, 0, false}, {0, 1, true}, {1, 0, false}, {65535, 0, true}, {0, 65535, false}, {65535, 65536, true},
		{0, 32767, true}, {0, 32768, false}, {32768, 0, false}, {0, 32769, false}, {32769, 0, true},
		{-1, 0, true}, {0, -1, false}, {65536, 0, false}, {math.MaxInt, math.MinInt, true}, {math.MinInt, math.MaxInt, false},
	} {
		if got := serial.Newer(x.a, x.b); got != x.want {
			t.Errorf("Newer(%d, %d) = %t", x.a, x.b, got)
		}
	}
}

func TestEachPairOfEdges(t *testing.T) {
	for _, a := range edges() {
		for _, b := range edges() {
			want := near(a, b)
			if got := serial.Near(a, b); got != want {
				t.Errorf("Near(%d, %d) = %d, want %d", a, b, got, want)
			}
			if got := serial.Newer(a, b); got != (want > 0) {
				t.Errorf("Newer(%d, %d) = %t", a, b, got)
			}
		}
	}
}
