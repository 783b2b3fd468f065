package plant_test

import (
	"math"
	"testing"

	"liftwell/api"
	"liftwell/plant"
)

func setting(floors, door int) api.Config {
	return api.Config{Floors: floors, Door: door}
}

func TestChapter(t *testing.T) {
	c := setting(5, 3)
	x := plant.Step(c, plant.New(), api.Cmd{Run: api.Up})
	if want := (api.Car{Unit: 1, Way: api.Up, Just: -1}); x != want {
		t.Errorf("told to run Up: %+v", x)
	}
	x = plant.Step(c, plant.New(), api.Cmd{Run: api.Up, Open: true})
	if want := (api.Car{Door: api.Door{State: api.Opening, At: 1}, Just: -1}); x != want {
		t.Errorf("told to open, too: %+v", x)
	}
}

func TestNew(t *testing.T) {
	if got := plant.New(); got != (api.Car{Just: -1}) {
		t.Errorf("New %+v", got)
	}
	for _, c := range []api.Config{{}, setting(2, 1), setting(64, 1000), setting(-1, -1)} {
		if !plant.Good(c, plant.New()) {
			t.Errorf("a new car is not good of %+v", c)
		}
	}
}

func TestGood(t *testing.T) {
	const (
		c, g, o, s = api.Closed, api.Opening, api.Open, api.Closing
	)
	for _, x := range []struct {
		floors, ticks   int
		state, at, unit int
		way             int
		want            bool
	}{
		{5, 3, c, 0, 0, api.Still, true}, {5, 3, c, 0, 16, api.Up, true}, {5, 3, c, 0, 7, api.Down, true}, {5, 3, c, 0, 8, api.Down, true},
		// The unit.
		{5, 3, c, 0, -1, api.Up, false}, {5, 3, c, 0, 17, api.Up, false}, {5, 3, c, 0, 20, api.Up, false}, {5, 3, c, 0, math.MinInt, api.Up, false},
		{5, 3, c, 0, math.MaxInt, api.Up, false}, {5, 3, c, 0, -4, api.Up, false},
		// Floors, beyond their bounds.
		{1, 3, c, 0, 4, api.Up, true}, {-9, 3, c, 0, 4, api.Up, true}, {1, 3, c, 0, 5, api.Up, false}, {2, 3, c, 0, 5, api.Up, false},
		{64, 3, c, 0, 252, api.Up, true}, {64, 3, c, 0, 253, api.Up, false}, {65, 3, c, 0, 256, api.Up, false}, {900, 3, c, 0, 252, api.Up, true},
		{63, 3, c, 0, 248, api.Up, true}, {63, 3, c, 0, 249, api.Up, false},
		// The way.
		{5, 3, c, 0, 8, -1, false}, {5, 3, c, 0, 8, 3, false}, {5, 3, c, 0, 8, math.MinInt, false}, {5, 3, c, 0, 8, math.MaxInt, false},
		// The door.
		{5, 3, c, 1, 8, api.Up, false}, {5, 3, c, -1, 8, api.Up, false}, {5, 3, o, 3, 8, api.Up, true}, {5, 3, o, 2, 8, api.Up, false}, {5, 3, o, 4, 8, api.Up, false},
		{5, 3, g, 0, 8, api.Up, true}, {5, 3, g, 3, 8, api.Up, true}, {5, 3, g, 4, 8, api.Up, false}, {5, 3, s, 0, 8, api.Up, true}, {5, 3, s, -1, 8, api.Up, false},
		{5, 3, 4, 0, 8, api.Up, false}, {5, 3, -1, 0, 8, api.Up, false},
		{5, 0, o, 1, 8, api.Up, true}, {5, 0, o, 0, 8, api.Up, false}, {5, 2000, o, 1000, 8, api.Up, true},
		// A door that is not closed between floors.
		{5, 3, o, 3, 7, api.Up, false}, {5, 3, g, 1, 9, api.Up, false}, {5, 3, s, 1, 10, api.Up, false}, {5, 3, g, 0, 1, api.Still, false}, {5, 3, s, 0, 15, api.Still, false},
		{5, 3, o, 3, 0, api.Still, true}, {5, 3, s, 1, 16, api.Still, true}, {5, 3, s, 1, 20, api.Still, false},
		{5, 3, c, 0, 9, api.Still, true},
	} {
		car := api.Car{Door: api.Door{State: x.state, At: x.at}, Unit: x.unit, Way: x.way}
		if got := plant.Good(setting(x.floors, x.ticks), car); got != x.want {
			t.Errorf("Good of %+v = %t", x, got)
		}
		// All else does not count.
		car.Timer, car.Just, car.Load, car.Blocked, car.Broken = -5, 900, -70000, true, true
		car.Mode, car.Target, car.Hold, car.Stops = 17, -8, true, api.Stops{Press: math.MaxUint64}
		if got := plant.Good(setting(x.floors, x.ticks), car); got != x.want {
			t.Errorf("Good of %+v, with all else odd = %t", x, got)
		}
	}
}

func TestSafe(t *testing.T) {
	for _, state := range []int{math.MinInt, -1, api.Closed, api.Opening, api.Open, api.Closing, 4, math.MaxInt} {
		for _, at := range []int{-1, 0, 3} {
			for _, x := range []struct {
				unit  int
				floor bool
			}{{0, true}, {4, true}, {252, true}, {1, false}, {7, false}, {251, false}, {253, false}, {256, false}, {-1, false}, {-4, false},
				{math.MinInt, false}, {math.MaxInt, false}} {
				car := api.Car{Door: api.Door{State: state, At: at}, Unit: x.unit, Way: 9}
				if got := plant.Safe(car); got != (state == api.Closed || x.floor) {
					t.Errorf("Safe(%+v) = %t", car, got)
				}
			}
		}
	}
}

// step goes by the chapter's words, from what each sentence says.
func step(floors, ticks int, x api.Car, cmd api.Cmd) api.Car {
	began := x.Door.State
	atFloor := x.Unit%4 == 0
	if !x.Broken {
		if cmd.Open && atFloor {
			if x.Door.State == api.Closed || x.Door.State == api.Closing {
				x.Door.State = api.Opening
			}
		} else if cmd.Close && (x.Door.State == api.Open || x.Door.State == api.Opening) {
			x.Door.State = api.Closing
		}
	}
	switch x.Door.State {
	case api.Opening:
		if x.Door.At < ticks {
			x.Door.At++
		}
		if x.Door.At == ticks {
			x.Door.State = api.Open
		}
	case api.Closing:
		if x.Blocked {
			x.Door.State = api.Opening
			break
		}
		if x.Door.At > 0 {
			x.Door.At--
		}
		if x.Door.At == 0 {
			x.Door.State = api.Closed
		}
	}
	if x.Broken || began != api.Closed || x.Door.State != api.Closed {
		return x
	}
	if cmd.Run == api.Up {
		x.Way = api.Up
		if x.Unit < 4*(floors-1) {
			x.Unit++
		}
	}
	if cmd.Run == api.Down {
		x.Way = api.Down
		if x.Unit > 0 {
			x.Unit--
		}
	}
	return x
}

// doors are all good ones.
func doors(ticks int) []api.Door {
	list := []api.Door{{State: api.Closed}, {State: api.Open, At: ticks}}
	for at := 0; at <= ticks; at++ {
		list = append(list, api.Door{State: api.Opening, At: at}, api.Door{State: api.Closing, At: at})
	}
	return list
}

func commands() []api.Cmd {
	var list []api.Cmd
	for _, run := range []int{api.Still, api.Up, api.Down, -1, 3, math.MinInt, math.MaxInt} {
		for n := range 4 {
			list = append(list, api.Cmd{Run: run, Open: n&1 == 1, Close: n&2 == 2})
		}
	}
	return list
}

func TestStepOfAllCars(t *testing.T) {
	const floors = 3
	for _, ticks := range []int{1, 3} {
		c := setting(floors, ticks)
		for _, door := range doors(ticks) {
			for unit := 0; unit <= 4*(floors-1); unit++ {
				for n := range 12 {
					x := api.Car{Door: door, Unit: unit, Way: n % 3, Blocked: n&4 == 4, Broken: n >= 8, Timer: 5, Just: 2, Load: 77,
						Mode: api.Leased, Target: 1, Hold: true, Stops: api.Stops{Press: 5, Up: 3, Down: 6}}
					if !plant.Good(c, x) {
						continue
					}
					for _, cmd := range commands() {
						got, want := plant.Step(c, x, cmd), step(floors, ticks, x, cmd)
						if got != want {
							t.Fatalf("Step of %+v, told %+v:\n%+v, want\n%+v", x, cmd, got, want)
						}
						if !plant.Good(c, got) {
							t.Fatalf("Step of %+v, told %+v: %+v is not good", x, cmd, got)
						}
						if got.Unit != x.Unit && (x.Door.State != api.Closed || got.Door.State != api.Closed) {
							t.Fatalf("%+v moved with its door open", x)
						}
					}
				}
			}
		}
	}
}

func TestStepAtTheEnds(t *testing.T) {
	for _, x := range []struct{ floors, unit, run, want int }{
		{5, 0, api.Down, 0}, {5, 1, api.Down, 0}, {5, 16, api.Up, 16}, {5, 15, api.Up, 16}, {5, 16, api.Down, 15}, {5, 0, api.Up, 1},
		{0, 4, api.Up, 4}, {0, 3, api.Up, 4}, {1000, 252, api.Up, 252}, {1000, 251, api.Up, 252}, {64, 252, api.Down, 251},
	} {
		got := plant.Step(setting(x.floors, 3), api.Car{Unit: x.unit}, api.Cmd{Run: x.run})
		if want := (api.Car{Unit: x.want, Way: x.run}); got != want {
			t.Errorf("%+v: %+v", x, got)
		}
	}
}

func TestDoorTicksBeyondTheBounds(t *testing.T) {
	open := api.Cmd{Open: true}
	for _, ticks := range []int{math.MinInt, -1, 0, 1} {
		if got := plant.Step(setting(5, ticks), plant.New(), open); got.Door != (api.Door{State: api.Open, At: 1}) {
			t.Errorf("Door %d: %+v", ticks, got.Door)
		}
	}
	for _, ticks := range []int{1000, 1001, math.MaxInt} {
		x := plant.New()
		for range 999 {
			x = plant.Step(setting(5, ticks), x, open)
		}
		if x.Door != (api.Door{State: api.Opening, At: 999}) {
			t.Errorf("Door %d: %+v", ticks, x.Door)
		}
		if x = plant.Step(setting(5, ticks), x, open); x.Door != (api.Door{State: api.Open, At: 1000}) {
			t.Errorf("Door %d: %+v", ticks, x.Door)
		}
	}
}

func TestClosedAtTheEndOfATickIsNotMoved(t *testing.T) {
	x := api.Car{Door: api.Door{State: api.Closing, At: 1}, Unit: 4, Way: api.Down}
	got := plant.Step(setting(5, 3), x, api.Cmd{Run: api.Up})
	if want := (api.Car{Unit: 4, Way: api.Down}); got != want {
		t.Errorf("%+v", got)
	}
	if got = plant.Step(setting(5, 3), got, api.Cmd{Run: api.Up}); got.Unit != 5 || got.Way != api.Up {
		t.Errorf("a tick later: %+v", got)
	}
}
