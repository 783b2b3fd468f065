package stops_test

import (
	"math"
	"math/rand"
	"testing"

	"liftwell/api"
	"liftwell/stops"
)

var floors = []int{math.MinInt, math.MinInt + 1, -1 << 32, -64, -63, -2, -1, 0, 1, 2, 5, 31, 32, 33, 61, 62, 63, 64, 65, 66,
	127, 128, 1 << 31, 1 << 32, 1<<32 + 5, math.MaxInt - 63, math.MaxInt - 1, math.MaxInt}

var ways = []int{math.MinInt, -2, -1, api.Still, api.Up, api.Down, 3, 4, 5, 1 << 32, 1<<32 + 1, math.MaxInt}

// set is stops as sets of floors, by kind: 0 for presses, else the way.
type set [3]map[int]bool

func newSet() set {
	return set{{}, {}, {}}
}

// word is the bits of one kind.
func (m set) word(kind int) uint64 {
	var bits uint64
	for floor := range m[kind] {
		bits += uint64(math.Pow(2, float64(floor)))
	}
	return bits
}

func (m set) stops() api.Stops {
	return api.Stops{Press: m.word(0), Up: m.word(1), Down: m.word(2)}
}

func isFloor(n int) bool { return n >= 0 && n <= 63 }
func isWay(n int) bool   { return n == api.Up || n == api.Down }

// check asks all that can be asked.
func check(t *testing.T, m set, s api.Stops) {
	t.Helper()
	if s != m.stops() {
		t.Fatalf("stops %+v, want %+v", s, m.stops())
	}
	if want := len(m[0]) + len(m[1]) + len(m[2]); stops.Count(s) != want {
		t.Fatalf("Count(%+v) = %d, want %d", s, stops.Count(s), want)
	}
	var calls []api.Call
	for floor := range 64 {
		for way := 1; way <= 2; way++ {
			if m[way][floor] {
				calls = append(calls, api.Call{Floor: floor, Way: way})
			}
		}
	}
	got := stops.Calls(s)
	if len(got) != len(calls) {
		t.Fatalf("Calls(%+v) = %v, want %v", s, got, calls)
	}
	for i := range got {
		if got[i] != calls[i] {
			t.Fatalf("Calls(%+v) = %v, want %v", s, got, calls)
		}
	}
	for _, floor := range floors {
		if got, want := stops.Here(s, floor), m[0][floor] || m[1][floor] || m[2][floor]; got != want {
			t.Fatalf("Here(%+v, %d) = %t", s, floor, got)
		}
		above, below := false, false
		for kind := range 3 {
			for at := range m[kind] {
				above = above || at > floor
				below = below || at < floor
			}
		}
		for _, way := range ways {
			if got, want := stops.At(s, floor, way), isWay(way) && m[max(min(way, 2), 0)][floor]; got != want {
				t.Fatalf("At(%+v, %d, %d) = %t", s, floor, way, got)
			}
			if got, want := stops.Ahead(s, floor, way), way == api.Up && above || way == api.Down && below; got != want {
				t.Fatalf("Ahead(%+v, %d, %d) = %t", s, floor, way, got)
			}
		}
	}
}

func TestChapter(t *testing.T) {
	s := stops.Press(api.Stops{}, 3)
	if !stops.Ahead(s, 2, api.Up) || stops.Ahead(s, 2, api.Down) || stops.Ahead(s, 3, api.Up) {
		t.Errorf("a press at 3: %+v", s)
	}
}

func TestNothing(t *testing.T) {
	check(t, newSet(), api.Stops{})
}

func TestOneOfEach(t *testing.T) {
	for _, floor := range floors {
		m := newSet()
		if isFloor(floor) {
			m[0][floor] = true
		}
		s := stops.Press(api.Stops{}, floor)
		check(t, m, s)
		check(t, m, stops.Press(s, floor))
		for _, way := range ways {
			m := newSet()
			if isFloor(floor) && isWay(way) {
				m[way][floor] = true
			}
			s := stops.Hall(api.Stops{}, floor, way)
			check(t, m, s)
			check(t, m, stops.Hall(s, floor, way))
		}
	}
}

func TestClear(t *testing.T) {
	full := api.Stops{Press: math.MaxUint64, Up: math.MaxUint64, Down: math.MaxUint64}
	for _, floor := range floors {
		for _, way := range ways {
			want := full
			if isFloor(floor) {
				bit := uint64(math.Pow(2, float64(floor)))
				want.Press -= bit
				if way == api.Up {
					want.Up -= bit
				}
				if way == api.Down {
					want.Down -= bit
				}
			}
			got := stops.Clear(full, floor, way)
			if got != want || stops.Clear(got, floor, way) != want {
				t.Errorf("Clear of all at %d, %d: %+v, want %+v", floor, way, got, want)
			}
			// What is not there is not there behind it.
			if got := stops.Clear(api.Stops{}, floor, way); got != (api.Stops{}) {
				t.Errorf("Clear of nothing at %d, %d: %+v", floor, way, got)
			}
			other := api.Stops{Press: 1 << 9, Up: 1 << 10, Down: 1 << 11}
			if got := stops.Clear(other, floor, way); got != other {
				t.Errorf("Clear of what is elsewhere at %d, %d: %+v", floor, way, got)
			}
		}
	}
}

func TestClearTakesOneHallCall(t *testing.T) {
	s := stops.Hall(stops.Hall(stops.Press(api.Stops{}, 5), 5, api.Up), 5, api.Down)
	for _, x := range []struct {
		way  int
		want api.Stops
	}{
		{api.Up, api.Stops{Down: 32}}, {api.Down, api.Stops{Up: 32}}, {api.Still, api.Stops{Up: 32, Down: 32}}, {3, api.Stops{Up: 32, Down: 32}}, {-1, api.Stops{Up: 32, Down: 32}},
	} {
		if got := stops.Clear(s, 5, x.way); got != x.want {
			t.Errorf("Clear(5, %d) = %+v, want %+v", x.way, got, x.want)
		}
	}
}

func TestCallsAreInOrder(t *testing.T) {
	s := api.Stops{Press: math.MaxUint64, Up: 1<<63 | 1<<4 | 1, Down: 1<<63 | 1<<4 | 1<<2}
	want := []api.Call{{Floor: 0, Way: 1}, {Floor: 2, Way: 2}, {Floor: 4, Way: 1}, {Floor: 4, Way: 2}, {Floor: 63, Way: 1}, {Floor: 63, Way: 2}}
	got := stops.Calls(s)
	if len(got) != len(want) {
		t.Fatalf("Calls %v", got)
	}
	for i := range want {
		if got[i] != want[i] {
			t.Fatalf("Calls %v", got)
		}
	}
	got[0] = api.Call{Floor: 9, Way: 9}
	if again := stops.Calls(s); again[0] != want[0] {
		t.Error("answers share memory")
	}
}

func TestDrawn(t *testing.T) {
	r := rand.New(rand.NewSource(12))
	for range 60 {
		m, s := newSet(), api.Stops{}
		for range 40 {
			floor, way := r.Intn(68)-2, r.Intn(5)-1
			switch r.Intn(4) {
			case 0:
				s = stops.Press(s, floor)
				if isFloor(floor) {
					m[0][floor] = true
				}
			case 1, 2:
				s = stops.Hall(s, floor, way)
				if isFloor(floor) && isWay(way) {
					m[way][floor] = true
				}
			case 3:
				s = stops.Clear(s, floor, way)
				delete(m[0], floor)
				if isWay(way) {
					delete(m[way], floor)
				}
			}
			check(t, m, s)
		}
	}
}
