package scan_test

import (
	"math"
	"testing"

	"liftwell/api"
	"liftwell/scan"
)

const (
	still = api.Still
	up    = api.Up
	down  = api.Down
)

// at has one floor's bit.
func at(floors ...int) uint64 {
	var bits uint64
	for _, floor := range floors {
		bits |= 1 << floor
	}
	return bits
}

func TestChapter(t *testing.T) {
	way, opened := scan.Next(api.Stops{Press: at(5), Down: at(2)}, 2, up, -1)
	if way != up || opened {
		t.Errorf("%d %t", way, opened)
	}
}

func TestEachLine(t *testing.T) {
	type stops = api.Stops
	for _, x := range []struct {
		name             string
		s                stops
		floor, way, just int
		want             int
		opened           bool
	}{
		{"nothing at all", stops{}, 3, still, -1, still, false},
		{"nothing at all, served just", stops{}, 3, still, 3, still, false},
		{"still, a press here", stops{Press: at(3)}, 3, still, -1, still, true},
		{"still, a press here, served just", stops{Press: at(3)}, 3, still, 3, still, true},
		{"still, a press here, another one served just", stops{Press: at(3)}, 3, still, 2, still, true},
		{"still, Up here", stops{Up: at(3)}, 3, still, -1, up, true},
		{"still, Down here", stops{Down: at(3)}, 3, still, -1, down, true},
		{"still, both here", stops{Up: at(3), Down: at(3)}, 3, still, -1, up, true},
		{"still, Down and a press here", stops{Press: at(3), Down: at(3)}, 3, still, -1, down, true},
		{"still, Down here, something above", stops{Press: at(7), Down: at(3)}, 3, still, -1, down, true},
		{"still, a press here, something above", stops{Press: at(3, 7)}, 3, still, -1, still, true},
		{"still, here, served just, something above", stops{Up: at(3), Press: at(7)}, 3, still, 3, up, false},
		{"still, here, served just, something below", stops{Up: at(3), Press: at(1)}, 3, still, 3, down, false},
		{"still, Up here, served just, nothing else", stops{Up: at(3)}, 3, still, 3, up, true},
		{"still, Down here, served just, nothing else", stops{Down: at(3)}, 3, still, 3, down, true},
		{"still, above", stops{Down: at(7)}, 3, still, -1, up, false},
		{"still, below", stops{Up: at(1)}, 3, still, -1, down, false},
		{"still, above and below", stops{Up: at(1), Press: at(9)}, 3, still, -1, up, false},
		{"up, a press here and on", stops{Press: at(3, 5)}, 3, up, -1, up, true},
		{"up, a press here, on and back", stops{Press: at(1, 3, 5)}, 3, up, -1, up, true},
		{"up, Up here", stops{Up: at(3)}, 3, up, -1, up, true},
		{"up, Up here and back", stops{Up: at(3), Press: at(1)}, 3, up, -1, up, true},
		{"up, Up and Down here", stops{Up: at(3), Down: at(3)}, 3, up, -1, up, true},
		{"up, Down here and on", stops{Down: at(3), Press: at(5)}, 3, up, -1, up, false},
		{"up, Down here, on and back", stops{Down: at(3), Press: at(1, 5)}, 3, up, -1, up, false},
		{"up, Down and a press here and on", stops{Down: at(3), Press: at(3, 5)}, 3, up, -1, up, true},
		{"up, Down here", stops{Down: at(3)}, 3, up, -1, down, true},
		{"up, Down here and back", stops{Down: at(3), Press: at(1)}, 3, up, -1, down, true},
		{"up, a press here", stops{Press: at(3)}, 3, up, -1, up, true},
		{"up, a press here and back", stops{Press: at(1, 3)}, 3, up, -1, up, true},
		{"up, a press here and Down here", stops{Press: at(3), Down: at(3)}, 3, up, -1, down, true},
		{"up, on", stops{Down: at(5)}, 3, up, -1, up, false},
		{"up, on and back", stops{Down: at(5), Up: at(1)}, 3, up, -1, up, false},
		{"up, back", stops{Up: at(1)}, 3, up, -1, down, false},
		{"up, nothing", stops{}, 3, up, -1, still, false},
		{"up, served just, Up here and on", stops{Up: at(3), Press: at(5)}, 3, up, 3, up, false},
		{"up, served just, Up here and back", stops{Up: at(3), Press: at(1)}, 3, up, 3, down, false},
		{"up, served just, Up here", stops{Up: at(3)}, 3, up, 3, up, true},
		{"up, served just, Down here", stops{Down: at(3)}, 3, up, 3, down, true},
		{"up, served just, a press here", stops{Press: at(3)}, 3, up, 3, up, true},
		{"up, served just, a press here and back", stops{Press: at(3, 1)}, 3, up, 3, down, false},
		{"down, a press here and on", stops{Press: at(3, 1)}, 3, down, -1, down, true},
		{"down, Down here and back", stops{Down: at(3), Press: at(9)}, 3, down, -1, down, true},
		{"down, Up here and on", stops{Up: at(3), Press: at(1)}, 3, down, -1, down, false},
		{"down, Up here and back", stops{Up: at(3), Press: at(9)}, 3, down, -1, up, true},
		{"down, Up here", stops{Up: at(3)}, 3, down, -1, up, true},
		{"down, a press here and back", stops{Press: at(3, 9)}, 3, down, -1, down, true},
		{"down, a press here", stops{Press: at(3)}, 3, down, -1, down, true},
		{"down, back", stops{Up: at(9)}, 3, down, -1, up, false},
		{"down, on", stops{Up: at(1)}, 3, down, -1, down, false},
		{"down, nothing", stops{}, 3, down, 3, still, false},
		{"down, served just, Up here and back", stops{Up: at(3), Press: at(9)}, 3, down, 3, up, false},
		{"lowest, going down, Up here", stops{Up: at(0)}, 0, down, -1, up, true},
		{"lowest, going down, all above", stops{Press: ^at(0)}, 0, down, -1, up, false},
		{"topmost, going up, Down here", stops{Down: at(63)}, 63, up, -1, down, true},
		{"topmost, going up, all below", stops{Press: ^at(63)}, 63, up, -1, down, false},
		{"topmost, still, the lowest", stops{Press: at(0)}, 63, still, 0, down, false},
		{"lowest, still, the topmost", stops{Press: at(63)}, 0, still, 63, up, false},
	} {
		if way, opened := scan.Next(x.s, x.floor, x.way, x.just); way != x.want || opened != x.opened {
			t.Errorf("%s: %d %t, want %d %t", x.name, way, opened, x.want, x.opened)
		}
	}
}

// next goes by the promise's lines, over lists of floors.
func next(s api.Stops, floor, way, just int) (int, bool) {
	has := func(word uint64, n int) bool { return word>>n&1 == 1 }
	above, below := false, false
	for n := range 64 {
		if has(s.Press, n) || has(s.Up, n) || has(s.Down, n) {
			above = above || n > floor
			below = below || n < floor
		}
	}
	press, hall := has(s.Press, floor), [3]bool{up: has(s.Up, floor), down: has(s.Down, floor)}
	here := press || hall[up] || hall[down]
	right := here && (just != floor || !above && !below)
	if way == still {
		switch {
		case right && hall[up]:
			return up, true
		case right && hall[down]:
			return down, true
		case right:
			return still, true
		case above:
			return up, false
		case below:
			return down, false
		}
		return still, false
	}
	on, back, turned := above, below, down
	if way == down {
		on, back, turned = below, above, up
	}
	if right && (press && on || hall[way]) {
		return way, true
	}
	if right && !on && !hall[way] {
		if hall[turned] {
			return turned, true
		}
		return way, true
	}
	if on {
		return way, false
	}
	if back {
		return turned, false
	}
	return still, false
}

func TestAllStopsOfThreeFloors(t *testing.T) {
	for _, three := range [][3]int{{0, 1, 2}, {61, 62, 63}, {0, 31, 63}, {5, 32, 33}} {
		for bits := range 1 << 9 {
			var s api.Stops
			for i, floor := range three {
				s.Press |= uint64(bits>>(3*i)&1) << floor
				s.Up |= uint64(bits>>(3*i+1)&1) << floor
				s.Down |= uint64(bits>>(3*i+2)&1) << floor
			}
			for _, floor := range append([]int{0, 63, 20}, three[:]...) {
				for way := range 3 {
					for _, just := range []int{floor, -1, floor + 1, floor - 1, 64, math.MinInt, math.MaxInt} {
						got, opened := scan.Next(s, floor, way, just)
						if want, is := next(s, floor, way, just); got != want || opened != is {
							t.Fatalf("Next(%+v, %d, %d, %d) = %d %t, want %d %t", s, floor, way, just, got, opened, want, is)
						}
					}
				}
			}
		}
	}
}
