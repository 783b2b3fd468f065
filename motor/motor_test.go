package motor_test

import (
	"math"
	"testing"

	"liftwell/api"
	"liftwell/motor"
)

const topmost = 4 * 63

func TestChapter(t *testing.T) {
	if floor, ok := motor.Level(8); floor != 2 || !ok {
		t.Errorf("Level(8) = %d %t", floor, ok)
	}
	if far := motor.Far(6, 2); far != 2 {
		t.Errorf("Far(6, 2) = %d", far)
	}
}

func TestFloors(t *testing.T) {
	for _, x := range []struct{ n, want int }{
		{math.MinInt, 2}, {-1, 2}, {0, 2}, {1, 2}, {2, 2}, {3, 3}, {10, 10}, {63, 63}, {64, 64}, {65, 64}, {1 << 32, 64}, {math.MaxInt, 64},
	} {
		if got := motor.Floors(x.n); got != x.want {
			t.Errorf("Floors(%d) = %d, want %d", x.n, got, x.want)
		}
	}
}

func TestLevel(t *testing.T) {
	for unit := -20; unit <= topmost+20; unit++ {
		want, is := 0, false
		for floor := range 64 {
			if unit == 4*floor {
				want, is = floor, true
			}
		}
		if got, ok := motor.Level(unit); got != want || ok != is {
			t.Errorf("Level(%d) = %d %t, want %d %t", unit, got, ok, want, is)
		}
	}
	for _, unit := range []int{math.MinInt, math.MinInt + 4, -1 << 32, -4 << 20, 1 << 32, 1<<32 + 4, 1 << 62, math.MaxInt - 3, math.MaxInt} {
		if got, ok := motor.Level(unit); got != 0 || ok {
			t.Errorf("Level(%d) = %d %t", unit, got, ok)
		}
	}
}

func TestMove(t *testing.T) {
	for _, x := range []struct{ unit, way, floors, want int }{
		{0, api.Up, 5, 1}, {3, api.Up, 5, 4}, {4, api.Up, 5, 5}, {15, api.Up, 5, 16}, {16, api.Up, 5, 16}, {17, api.Up, 5, 17}, {900, api.Up, 5, 900},
		{16, api.Down, 5, 15}, {1, api.Down, 5, 0}, {0, api.Down, 5, 0}, {-1, api.Down, 5, -1}, {-50, api.Down, 5, -50}, {17, api.Down, 5, 16}, {900, api.Down, 5, 899},
		{-1, api.Up, 5, 0}, {-50, api.Up, 5, -49},
		{math.MinInt, api.Down, 5, math.MinInt}, {math.MinInt, api.Up, 5, math.MinInt + 1},
		{math.MaxInt, api.Up, 5, math.MaxInt}, {math.MaxInt, api.Down, 5, math.MaxInt - 1},
		// So many floors as there may be.
		{3, api.Up, 1, 4}, {4, api.Up, 1, 4}, {3, api.Up, 0, 4}, {4, api.Up, -7, 4}, {3, api.Up, math.MinInt, 4}, {4, api.Up, 2, 4},
		{4, api.Up, 3, 5}, {topmost - 1, api.Up, 64, topmost}, {topmost, api.Up, 64, topmost}, {topmost, api.Up, 65, topmost},
		{topmost - 1, api.Up, 1000, topmost}, {topmost, api.Up, math.MaxInt, topmost}, {topmost - 4, api.Up, 63, topmost - 4}, {topmost - 5, api.Up, 63, topmost - 4},
		{2, api.Down, math.MinInt, 1},
	} {
		if got := motor.Move(x.unit, x.way, x.floors); got != x.want {
			t.Errorf("Move(%d, %d, %d) = %d, want %d", x.unit, x.way, x.floors, got, x.want)
		}
	}
	for _, way := range []int{math.MinInt, -2, -1, api.Still, 3, 4, 5, math.MaxInt} {
		for _, unit := range []int{math.MinInt, -1, 0, 1, 8, topmost, 1000, math.MaxInt} {
			if got := motor.Move(unit, way, 5); got != unit {
				t.Errorf("Move(%d, %d, 5) = %d", unit, way, got)
			}
		}
	}
}

func TestTowardAndFar(t *testing.T) {
	for unit := 0; unit <= topmost; unit++ {
		for floor := range 64 {
			way, far := api.Still, 0
			for at := unit; at < 4*floor; at++ {
				way, far = api.Up, far+1
			}
			for at := unit; at > 4*floor; at-- {
				way, far = api.Down, far+1
			}
			if got := motor.Toward(unit, floor); got != way {
				t.Errorf("Toward(%d, %d) = %d, want %d", unit, floor, got, way)
			}
			if got := motor.Far(unit, floor); got != far {
				t.Errorf("Far(%d, %d) = %d, want %d", unit, floor, got, far)
			}
		}
	}
}

func TestName(t *testing.T) {
	for _, x := range []struct {
		way  int
		want string
	}{
		{api.Still, "still"}, {api.Up, "up"}, {api.Down, "down"},
		{-1, ""}, {-2, ""}, {3, ""}, {4, ""}, {256, ""}, {1 << 32, ""}, {math.MinInt, ""}, {math.MaxInt, ""},
	} {
		if got := motor.Name(x.way); got != x.want {
			t.Errorf("Name(%d) = %q, want %q", x.way, got, x.want)
		}
	}
}
