package carctl_test

import (
	"math"
	"math/rand"
	"testing"

	"liftwell/api"
	"liftwell/carctl"
	"liftwell/plant"
	"liftwell/scan"
	"liftwell/stops"
)

var setting = api.Config{Floors: 4, Door: 3, Dwell: 5, Load: 600}

// expect does a tick and holds all of its answer.
func expect(t *testing.T, name string, c api.Config, x, want api.Car, call api.Call, served bool) {
	t.Helper()
	got, called, is := carctl.Tick(c, x)
	if got != want || called != call || is != served {
		t.Errorf("%s: Tick(%+v) =\n%+v %+v %t, want\n%+v %+v %t", name, x, got, called, is, want, call, served)
	}
}

func door(state, at int) api.Door {
	return api.Door{State: state, At: at}
}

func TestChapter(t *testing.T) {
	x := plant.New()
	x.Stops = stops.Press(x.Stops, 1)
	for n := range 5 {
		if x.Door.State != api.Closed {
			t.Fatalf("behind %d ticks: %+v", n, x)
		}
		var served bool
		if x, _, served = carctl.Tick(setting, x); served {
			t.Fatal("a press is no hall call")
		}
	}
	if x.Door.State != api.Opening || x.Unit != 4 {
		t.Errorf("five ticks later: %+v", x)
	}
}

func TestIdle(t *testing.T) {
	idle := api.Car{Unit: 8, Just: -1}
	if !carctl.Idle(idle) || !carctl.Idle(plant.New()) {
		t.Error("an idle car")
	}
	for _, x := range []struct {
		name   string
		change func(x *api.Car)
		want   bool
	}{
		{"leased", func(x *api.Car) { x.Mode = api.Leased }, false},
		{"of mode Broken", func(x *api.Car) { x.Mode = api.Broken }, false},
		{"of mode -1", func(x *api.Car) { x.Mode = -1 }, false},
		{"broken", func(x *api.Car) { x.Broken = true }, false},
		{"between floors", func(x *api.Car) { x.Unit = 9 }, false},
		{"below all floors", func(x *api.Car) { x.Unit = -4 }, false},
		{"above all floors", func(x *api.Car) { x.Unit = 256 }, false},
		{"at the topmost floor that may be", func(x *api.Car) { x.Unit = 252 }, true},
		{"far below", func(x *api.Car) { x.Unit = math.MinInt }, false},
		{"far above", func(x *api.Car) { x.Unit = math.MaxInt }, false},
		{"opening", func(x *api.Car) { x.Door = door(api.Opening, 1) }, false},
		{"open", func(x *api.Car) { x.Door = door(api.Open, 3) }, false},
		{"closing", func(x *api.Car) { x.Door = door(api.Closing, 1) }, false},
		{"going up", func(x *api.Car) { x.Way = api.Up }, false},
		{"going down", func(x *api.Car) { x.Way = api.Down }, false},
		{"going nowhere", func(x *api.Car) { x.Way = -1 }, false},
		{"pressed", func(x *api.Car) { x.Stops.Press = 1 }, false},
		{"called up", func(x *api.Car) { x.Stops.Up = 1 << 63 }, false},
		{"called down", func(x *api.Car) { x.Stops.Down = 1 << 5 }, false},
		{"with all else odd", func(x *api.Car) {
			x.Timer, x.Just, x.Load, x.Blocked, x.Target, x.Hold = 99, 2, 9999, true, 7, true
		}, true},
	} {
		car := idle
		x.change(&car)
		if got := carctl.Idle(car); got != x.want {
			t.Errorf("%s: %t", x.name, got)
		}
	}
}

func TestStop(t *testing.T) {
	for _, n := range []int{math.MinInt, -1, 0, 1, 7, 1000, 1001, math.MaxInt} {
		for _, x := range []api.Car{{Timer: n}, {Timer: n, Unit: 3, Broken: true, Mode: 9}, {Timer: n, Door: door(api.Open, 3)}} {
			if got := carctl.Stop(x); got != n {
				t.Errorf("Stop(%+v) = %d", x, got)
			}
		}
	}
}

func TestNormalClosed(t *testing.T) {
	none := api.Call{}
	car := func(unit, way, just int, s api.Stops) api.Car {
		return api.Car{Unit: unit, Way: way, Just: just, Stops: s, Timer: 77, Load: 5}
	}
	moved := func(unit, way, just int, s api.Stops) api.Car { return car(unit, way, just, s) }
	opened := func(unit, way int, s api.Stops) api.Car {
		x := car(unit, way, unit/4, s)
		x.Timer, x.Door = 5, door(api.Opening, 1)
		return x
	}
	type st = api.Stops
	expect(t, "between floors, up", setting, car(5, api.Up, -1, st{}), moved(6, api.Up, -1, st{}), none, false)
	expect(t, "between floors, down", setting, car(5, api.Down, -1, st{}), moved(4, api.Down, -1, st{}), none, false)
	expect(t, "between floors, with stops behind", setting, car(5, api.Up, -1, st{Press: 1}), moved(6, api.Up, -1, st{Press: 1}), none, false)
	expect(t, "nothing to do", setting, car(4, api.Up, 1, st{}), car(4, api.Still, 1, st{}), none, false)
	expect(t, "nothing to do, still", setting, car(4, api.Still, 1, st{}), car(4, api.Still, 1, st{}), none, false)
	expect(t, "a press here", setting, car(4, api.Still, -1, st{Press: 2}), opened(4, api.Still, st{}), none, false)
	expect(t, "Up here", setting, car(4, api.Still, -1, st{Up: 2}), opened(4, api.Up, st{}), api.Call{Floor: 1, Way: api.Up}, true)
	expect(t, "Down here", setting, car(8, api.Still, -1, st{Down: 4}), opened(8, api.Down, st{}), api.Call{Floor: 2, Way: api.Down}, true)
	expect(t, "both here", setting, car(8, api.Still, -1, st{Press: 4, Up: 4, Down: 4}), opened(8, api.Up, st{Down: 4}), api.Call{Floor: 2, Way: api.Up}, true)
	expect(t, "going down, both here", setting, car(8, api.Down, -1, st{Press: 4, Up: 4, Down: 4}), opened(8, api.Down, st{Up: 4}), api.Call{Floor: 2, Way: api.Down}, true)
	expect(t, "a press here, a call the other way", setting, car(8, api.Up, -1, st{Press: 4 | 8, Down: 4}), opened(8, api.Up, st{Press: 8, Down: 4}), none, false)
	expect(t, "turns here", setting, car(8, api.Up, -1, st{Down: 4, Press: 1}), opened(8, api.Down, st{Press: 1}), api.Call{Floor: 2, Way: api.Down}, true)
	expect(t, "runs up", setting, car(8, api.Still, 2, st{Press: 8}), moved(9, api.Up, -1, st{Press: 8}), none, false)
	expect(t, "runs down", setting, car(8, api.Up, 2, st{Press: 1}), moved(7, api.Down, -1, st{Press: 1}), none, false)
	expect(t, "served just, and goes on", setting, car(8, api.Up, 2, st{Press: 4 | 8}), moved(9, api.Up, -1, st{Press: 4 | 8}), none, false)
	expect(t, "served just, and nothing else", setting, car(8, api.Up, 2, st{Press: 4}), opened(8, api.Up, st{}), none, false)
	expect(t, "all else does not count", setting, api.Car{Unit: 8, Just: 2, Stops: st{Press: 8}, Blocked: true, Load: 9999, Target: 3, Hold: true},
		api.Car{Unit: 9, Way: api.Up, Just: -1, Stops: st{Press: 8}, Blocked: true, Load: 9999, Target: 3, Hold: true}, none, false)
}

func TestDwell(t *testing.T) {
	for _, x := range []struct{ dwell, counts int }{
		{math.MinInt, 1}, {-1, 1}, {0, 1}, {1, 1}, {2, 2}, {999, 999}, {1000, 1000}, {1001, 1000}, {math.MaxInt, 1000},
	} {
		c := setting
		c.Dwell = x.dwell
		got, _, served := carctl.Tick(c, api.Car{Unit: 4, Stops: api.Stops{Up: 2}})
		if got.Timer != x.counts || !served || carctl.Stop(got) != x.counts {
			t.Errorf("Dwell %d: Timer %d", x.dwell, got.Timer)
		}
		open := api.Car{Unit: 4, Door: door(api.Open, 3), Blocked: true, Timer: 3}
		if got, _, _ = carctl.Tick(c, open); got.Timer != x.counts || got.Door != open.Door {
			t.Errorf("Dwell %d, blocked: %+v", x.dwell, got)
		}
	}
}

func TestNormalOpen(t *testing.T) {
	for _, x := range []struct {
		timer, load int
		blocked     bool
		after       int
		closes      bool
	}{
		{9, 0, false, 8, false}, {3, 0, false, 2, false}, {2, 0, false, 1, false}, {1, 0, false, 0, true}, {0, 0, false, -1, true}, {-7, 0, false, -8, true},
		{100000, 0, false, 99999, false}, {math.MaxInt, 0, false, math.MaxInt - 1, false},
		{9, 0, true, 5, false}, {1, 0, true, 5, false}, {0, 0, true, 5, false}, {-7, 0, true, 5, false},
		{9, 601, false, 5, false}, {1, 601, false, 5, false}, {1, 600, false, 0, true}, {1, 599, false, 0, true}, {1, math.MaxInt, false, 5, false},
		{1, -601, false, 0, true}, {1, 601, true, 5, false},
	} {
		from := api.Car{Unit: 4, Way: api.Up, Door: door(api.Open, 3), Timer: x.timer, Load: x.load, Blocked: x.blocked, Just: 1,
			Stops: api.Stops{Press: 2, Up: 2}}
		want := from
		want.Timer = x.after
		if x.closes {
			want.Door = door(api.Closing, 2)
		}
		expect(t, "open", setting, from, want, api.Call{}, false)
	}
	// How much is too much is the setting's, as chapter 10 has it.
	for _, x := range []struct {
		limit, load int
		over        bool
	}{{0, 0, false}, {0, 1, true}, {-5, 0, false}, {-5, 1, true}, {10000, 20000, false}, {9999, 20000, true}, {20000, 20000, false}} {
		c := setting
		c.Load = x.limit
		got, _, _ := carctl.Tick(c, api.Car{Unit: 4, Door: door(api.Open, 3), Timer: 1, Load: x.load})
		if over := got.Door.State == api.Open; over != x.over {
			t.Errorf("limit %d, load %d: %t", x.limit, x.load, over)
		}
	}
}

func TestNormalOpeningAndClosing(t *testing.T) {
	from := api.Car{Unit: 4, Way: api.Up, Timer: 1, Just: 1, Stops: api.Stops{Press: 2 | 8, Up: 2}}
	for _, x := range []struct {
		door, want api.Door
		blocked    bool
	}{
		{door(api.Opening, 1), door(api.Opening, 2), false}, {door(api.Opening, 2), door(api.Open, 3), true},
		{door(api.Closing, 3), door(api.Closing, 2), false}, {door(api.Closing, 1), door(api.Closed, 0), false}, {door(api.Closing, 2), door(api.Opening, 2), true},
	} {
		at, want := from, from
		at.Door, at.Blocked = x.door, x.blocked
		want.Door, want.Blocked = x.want, x.blocked
		expect(t, "on its way", setting, at, want, api.Call{}, false)
	}
}

func TestBroken(t *testing.T) {
	for _, mode := range []int{api.Normal, api.Leased} {
		for _, x := range []struct {
			unit       int
			door, want api.Door
		}{
			{5, door(api.Closed, 0), door(api.Closed, 0)}, {4, door(api.Closed, 0), door(api.Closed, 0)}, {8, door(api.Closed, 0), door(api.Closed, 0)},
			{4, door(api.Open, 3), door(api.Open, 3)}, {4, door(api.Closing, 2), door(api.Closing, 1)}, {4, door(api.Opening, 1), door(api.Opening, 2)},
			{8, door(api.Open, 3), door(api.Open, 3)}, {8, door(api.Closing, 2), door(api.Closing, 1)},
		} {
			from := api.Car{Unit: x.unit, Way: api.Up, Door: x.door, Timer: 1, Just: 7, Broken: true, Mode: mode, Target: 2, Hold: true, Stops: api.Stops{Press: 2, Up: 6}}
			want := from
			want.Door = x.want
			expect(t, "broken", setting, from, want, api.Call{}, false)
		}
	}
}

func TestLeased(t *testing.T) {
	for _, x := range []struct {
		name        string
		unit        int
		door        api.Door
		target      int
		hold, block bool
		toUnit, way int
		to          api.Door
		just        int
	}{
		{"there, held", 8, door(0, 0), 2, true, false, 8, api.Still, door(api.Opening, 1), 1},
		{"there, not held", 8, door(0, 0), 2, false, false, 8, api.Still, door(0, 0), 1},
		{"below", 4, door(0, 0), 2, true, false, 5, api.Up, door(0, 0), -1},
		{"below, between floors", 7, door(0, 0), 2, true, false, 8, api.Up, door(0, 0), -1},
		{"above", 12, door(0, 0), 2, false, false, 11, api.Down, door(0, 0), -1},
		{"above, between floors, blocked", 10, door(0, 0), 2, true, true, 9, api.Down, door(0, 0), -1},
		{"there, held, open", 8, door(api.Open, 3), 2, true, false, 8, api.Still, door(api.Open, 3), 1},
		{"there, held, opening", 8, door(api.Opening, 1), 2, true, false, 8, api.Still, door(api.Opening, 2), 1},
		{"there, held, closing", 8, door(api.Closing, 1), 2, true, false, 8, api.Still, door(api.Opening, 2), 1},
		{"there, held, closing, blocked", 8, door(api.Closing, 1), 2, true, true, 8, api.Still, door(api.Opening, 2), 1},
		{"there, held, open, blocked", 8, door(api.Open, 3), 2, true, true, 8, api.Still, door(api.Open, 3), 1},
		{"there, not held, open", 8, door(api.Open, 3), 2, false, false, 8, api.Still, door(api.Closing, 2), 1},
		{"there, not held, open, blocked", 8, door(api.Open, 3), 2, false, true, 8, api.Still, door(api.Open, 3), 1},
		{"there, not held, closing", 8, door(api.Closing, 2), 2, false, false, 8, api.Still, door(api.Closing, 1), 1},
		{"there, not held, closing, blocked", 8, door(api.Closing, 2), 2, false, true, 8, api.Still, door(api.Opening, 2), 1},
		{"there, not held, opening", 8, door(api.Opening, 2), 2, false, false, 8, api.Still, door(api.Open, 3), 1},
		{"elsewhere, open", 8, door(api.Open, 3), 0, true, false, 8, api.Still, door(api.Closing, 2), 1},
		{"elsewhere, open, blocked", 8, door(api.Open, 3), 0, true, true, 8, api.Still, door(api.Open, 3), 1},
		{"elsewhere, closing", 8, door(api.Closing, 1), 0, true, false, 8, api.Still, door(0, 0), 1},
		{"elsewhere, closing, blocked", 8, door(api.Closing, 1), 0, true, true, 8, api.Still, door(api.Opening, 1), 1},
		{"elsewhere, opening", 8, door(api.Opening, 1), 3, false, false, 8, api.Still, door(api.Opening, 2), 1},
	} {
		from := api.Car{Unit: x.unit, Door: x.door, Mode: api.Leased, Target: x.target, Hold: x.hold, Blocked: x.block, Just: 1, Timer: 1, Load: 5000,
			Stops: api.Stops{Press: 6, Up: 6, Down: 4}}
		want := from
		want.Unit, want.Way, want.Door, want.Just = x.toUnit, x.way, x.to, x.just
		expect(t, x.name, setting, from, want, api.Call{}, false)
	}
}

// tell is what a car is told, and what changes of it ahead of that, by the promise's words.
func tell(c api.Config, x api.Car) (api.Car, api.Cmd, api.Call, bool) {
	var cmd api.Cmd
	dwell := c.Dwell
	floor, atFloor := x.Unit/4, x.Unit%4 == 0
	if x.Broken {
		return x, cmd, api.Call{}, false
	}
	if x.Mode == api.Leased {
		target := x.Unit == 4*x.Target
		if x.Door.State == api.Closed {
			if target {
				cmd.Open = x.Hold
			} else {
				cmd.Run = api.Up
				if x.Unit > 4*x.Target {
					cmd.Run = api.Down
				}
				x.Just = -1
			}
		} else if target && x.Hold {
			cmd.Open = x.Door.State == api.Closing
		} else if x.Door.State == api.Open && !x.Blocked {
			cmd.Close = true
		}
		return x, cmd, api.Call{}, false
	}
	if x.Door.State == api.Open {
		if x.Blocked || x.Load > c.Load {
			x.Timer = dwell
			return x, cmd, api.Call{}, false
		}
		x.Timer--
		cmd.Close = x.Timer < 1
	}
	if x.Door.State != api.Closed {
		return x, cmd, api.Call{}, false
	}
	if !atFloor {
		cmd.Run = x.Way
		return x, cmd, api.Call{}, false
	}
	way, opened := scan.Next(x.Stops, floor, x.Way, x.Just)
	if opened {
		cmd.Open = true
		x.Way, x.Timer, x.Just = way, dwell, floor
		call := api.Call{Floor: floor, Way: way}
		is := way == api.Up && x.Stops.Up>>floor&1 == 1 || way == api.Down && x.Stops.Down>>floor&1 == 1
		x.Stops = stops.Clear(x.Stops, floor, way)
		if !is {
			call = api.Call{}
		}
		return x, cmd, call, is
	}
	if way == api.Still {
		x.Way = way
	} else {
		cmd.Run, x.Just = way, -1
	}
	return x, cmd, api.Call{}, false
}

func drawnCar(r *rand.Rand, c api.Config) api.Car {
	for {
		x := api.Car{Door: door(r.Intn(4), r.Intn(c.Door+1)), Unit: r.Intn(4*c.Floors - 3), Way: r.Intn(3), Timer: r.Intn(4) - 1, Just: r.Intn(c.Floors+1) - 1,
			Load: r.Intn(3) * 599, Blocked: r.Intn(3) == 0, Broken: r.Intn(6) == 0, Mode: r.Intn(2), Target: r.Intn(c.Floors), Hold: r.Intn(2) == 0}
		mask := uint64(1)<<c.Floors - 1
		x.Stops = api.Stops{Press: r.Uint64() & r.Uint64() & mask, Up: r.Uint64() & r.Uint64() & mask, Down: r.Uint64() & r.Uint64() & mask}
		if plant.Good(c, x) && (x.Unit%4 == 0 || x.Way != api.Still) {
			return x
		}
	}
}

func TestDrawnAgainstTheWords(t *testing.T) {
	r := rand.New(rand.NewSource(14))
	for range 60000 {
		c := api.Config{Floors: 2 + r.Intn(4), Door: 1 + r.Intn(3), Dwell: 1 + r.Intn(5), Load: 600}
		x := drawnCar(r, c)
		told, cmd, call, served := tell(c, x)
		expect(t, "drawn", c, x, plant.Step(c, told, cmd), call, served)
		if t.Failed() {
			return
		}
	}
}

func TestRunsStayGood(t *testing.T) {
	for seed := range 200 {
		r := rand.New(rand.NewSource(int64(seed)))
		c := api.Config{Floors: 2 + r.Intn(4), Door: 1 + r.Intn(3), Dwell: 1 + r.Intn(5), Load: 600}
		x := plant.New()
		for range 400 {
			switch r.Intn(12) {
			case 0:
				x.Stops = stops.Press(x.Stops, r.Intn(c.Floors))
			case 1:
				x.Stops = stops.Hall(x.Stops, r.Intn(c.Floors), 1+r.Intn(2))
			case 2:
				x.Blocked = r.Intn(3) == 0
			case 3:
				if carctl.Idle(x) {
					x.Mode, x.Target, x.Hold = api.Leased, r.Intn(c.Floors), r.Intn(2) == 0
				}
			case 4:
				if x.Mode == api.Leased {
					x.Target, x.Hold = r.Intn(c.Floors), r.Intn(2) == 0
				}
			}
			was := x
			var call api.Call
			var served bool
			x, call, served = carctl.Tick(c, x)
			if !plant.Good(c, x) || !plant.Safe(x) {
				t.Fatalf("%+v went to %+v", was, x)
			}
			if x.Unit != was.Unit && (was.Door.State != api.Closed || x.Door.State != api.Closed) {
				t.Fatalf("%+v moved with its door open", was)
			}
			if served && (!stops.At(was.Stops, call.Floor, call.Way) || stops.At(x.Stops, call.Floor, call.Way) || x.Unit != 4*call.Floor) {
				t.Fatalf("%+v served %+v", was, call)
			}
		}
	}
}
