package group_test

import (
	"math"
	"math/rand"
	"slices"
	"testing"

	"liftwell/api"
	"liftwell/carctl"
	"liftwell/eta"
	"liftwell/group"
	"liftwell/plant"
	"liftwell/stops"
)

var setting = api.Config{Cars: 3, Floors: 5, Door: 2, Dwell: 4, Load: 600}

var odd = []int{math.MinInt, -1 << 32, -2, -1}

func wait(floor, way, car, since int) api.Wait {
	return api.Wait{Call: api.Call{Floor: floor, Way: way}, Car: car, Since: since}
}

func expect(t *testing.T, name string, got, want api.Errno) {
	t.Helper()
	if got != want {
		t.Errorf("%s: %d, want %d", name, got, want)
	}
}

func expectWaits(t *testing.T, g *group.Group, want ...api.Wait) {
	t.Helper()
	if got := g.Waits(); !slices.Equal(got, want) {
		t.Errorf("Waits %+v, want %+v", got, want)
	}
}

func expectCar(t *testing.T, g *group.Group, car int, want api.Car) {
	t.Helper()
	if got := g.Cars()[car]; got != want {
		t.Errorf("car %d: %+v, want %+v", car, got, want)
	}
}

// run ticks till so many ticks have gone by, and answers all that was served.
func run(g *group.Group, ticks int) []api.Wait {
	var served []api.Wait
	for range ticks {
		served = append(served, g.Tick()...)
	}
	return served
}

func TestChapter(t *testing.T) {
	g := group.New(setting)
	expect(t, "Hall", g.Hall(0, api.Up), api.OK)
	if got := g.Tick(); !slices.Equal(got, []api.Wait{wait(0, api.Up, 0, 0)}) {
		t.Errorf("served %+v", got)
	}
	expectWaits(t, g)
}

func TestNilGroup(t *testing.T) {
	var g *group.Group
	expect(t, "Hall", g.Hall(0, api.Up), api.ErrArg)
	expect(t, "Press", g.Press(0, 0), api.ErrArg)
	expect(t, "Load", g.Load(0, 0), api.ErrArg)
	expect(t, "Curtain", g.Curtain(0, true), api.ErrArg)
	expect(t, "Fault", g.Fault(0, false), api.ErrArg)
	expect(t, "Take", g.Take(0, 0), api.ErrArg)
	expect(t, "Aim", g.Aim(0, 0, true), api.ErrArg)
	expect(t, "Give", g.Give(0), api.ErrArg)
	if g.Tick() != nil || g.Cars() != nil || g.Waits() != nil || g.Now() != 0 {
		t.Error("a nil *Group tells something")
	}
}

func TestNew(t *testing.T) {
	for _, x := range []struct{ cars, count int }{
		{math.MinInt, 1}, {-1, 1}, {0, 1}, {1, 1}, {2, 2}, {3, 3}, {7, 7}, {8, 8}, {9, 8}, {1 << 32, 8}, {math.MaxInt, 8},
	} {
		c := setting
		c.Cars = x.cars
		g := group.New(c)
		cars := g.Cars()
		if len(cars) != x.count || len(g.Waits()) != 0 || g.Now() != 0 {
			t.Errorf("Cars %d: %d cars, %v, %d", x.cars, len(cars), g.Waits(), g.Now())
		}
		for _, car := range cars {
			if car != plant.New() {
				t.Errorf("a new car is %+v", car)
			}
		}
		expect(t, "Load of the last", g.Load(x.count-1, 5), api.OK)
		expect(t, "Load behind the last", g.Load(x.count, 5), api.ErrArg)
	}
}

func TestNoSuchCar(t *testing.T) {
	g := group.New(setting)
	before := g.Cars()
	for _, car := range append([]int{3, 4, 8, 1 << 32, math.MaxInt}, odd...) {
		expect(t, "Press", g.Press(car, 1), api.ErrArg)
		expect(t, "Load", g.Load(car, 1), api.ErrArg)
		expect(t, "Curtain", g.Curtain(car, true), api.ErrArg)
		expect(t, "Fault", g.Fault(car, true), api.ErrArg)
		expect(t, "Take", g.Take(car, 1), api.ErrArg)
		expect(t, "Aim", g.Aim(car, 1, true), api.ErrArg)
		expect(t, "Give", g.Give(car), api.ErrArg)
	}
	if !slices.Equal(g.Cars(), before) {
		t.Errorf("cars changed: %+v", g.Cars())
	}
}

func TestNoSuchFloor(t *testing.T) {
	for _, x := range []struct{ floors, count int }{{5, 5}, {0, 2}, {2, 2}, {1000, 64}, {64, 64}, {-7, 2}} {
		c := setting
		c.Floors = x.floors
		g := group.New(c)
		for _, floor := range append([]int{x.count, x.count + 1, 1 << 32, math.MaxInt}, odd...) {
			before := g.Cars()
			expect(t, "Press", g.Press(0, floor), api.ErrArg)
			expect(t, "Take", g.Take(0, floor), api.ErrArg)
			// Of a car that is leased, or is not, a floor that there is none of is told first.
			expect(t, "Aim", g.Aim(0, floor, true), api.ErrArg)
			if !slices.Equal(g.Cars(), before) {
				t.Errorf("cars changed: %+v", g.Cars())
			}
			g.Take(1, 0)
			expect(t, "Aim of a leased one", g.Aim(1, floor, true), api.ErrArg)
			expect(t, "Press of a leased one", g.Press(1, floor), api.ErrArg)
			expect(t, "Take of a leased one", g.Take(1, floor), api.ErrArg)
		}
		expect(t, "Press of the topmost", g.Press(0, x.count-1), api.OK)
		expect(t, "Take to the topmost", g.Take(2, x.count-1), api.OK)
		expect(t, "Aim at the lowest", g.Aim(2, 0, true), api.OK)
	}
}

func TestHall(t *testing.T) {
	for _, x := range []struct {
		floor, way int
		want       api.Errno
	}{
		{0, api.Up, api.OK}, {1, api.Up, api.OK}, {3, api.Up, api.OK}, {4, api.Up, api.ErrArg}, {5, api.Up, api.ErrArg}, {-1, api.Up, api.ErrArg},
		{4, api.Down, api.OK}, {1, api.Down, api.OK}, {0, api.Down, api.ErrArg}, {5, api.Down, api.ErrArg}, {-1, api.Down, api.ErrArg}, {6, api.Down, api.ErrArg},
		{2, api.Still, api.ErrArg}, {2, 3, api.ErrArg}, {2, -1, api.ErrArg}, {2, math.MinInt, api.ErrArg}, {2, math.MaxInt, api.ErrArg}, {0, api.Still, api.ErrArg},
		{math.MaxInt, api.Up, api.ErrArg}, {math.MinInt, api.Up, api.ErrArg}, {math.MaxInt, api.Down, api.ErrArg}, {math.MinInt, api.Down, api.ErrArg},
	} {
		g := group.New(setting)
		run(g, 3)
		expect(t, "Hall", g.Hall(x.floor, x.way), x.want)
		if x.want == api.OK {
			expectWaits(t, g, wait(x.floor, x.way, -1, 3))
		} else {
			expectWaits(t, g)
		}
	}
}

func TestHallTwice(t *testing.T) {
	g := group.New(setting)
	run(g, 2)
	g.Hall(3, api.Down)
	g.Hall(3, api.Up)
	expect(t, "again", g.Hall(3, api.Down), api.OK)
	expectWaits(t, g, wait(3, api.Down, -1, 2), wait(3, api.Up, -1, 2))
	run(g, 1)
	expectWaits(t, g, wait(3, api.Down, 0, 2), wait(3, api.Up, 1, 2))
	expect(t, "again, when it is somebody's", g.Hall(3, api.Down), api.OK)
	g.Hall(1, api.Up)
	expectWaits(t, g, wait(3, api.Down, 0, 2), wait(3, api.Up, 1, 2), wait(1, api.Up, -1, 3))
}

func TestPress(t *testing.T) {
	g := group.New(setting)
	expect(t, "Press", g.Press(1, 3), api.OK)
	expect(t, "Press again", g.Press(1, 3), api.OK)
	expect(t, "Press another", g.Press(1, 0), api.OK)
	want := plant.New()
	want.Stops.Press = 9
	expectCar(t, g, 1, want)
	expectCar(t, g, 0, plant.New())
	g.Take(2, 1)
	expect(t, "of a leased one", g.Press(2, 3), api.ErrState)
	g.Fault(0, true)
	expect(t, "of a broken one", g.Press(0, 3), api.ErrState)
	g.Fault(2, true)
	expect(t, "of a broken leased one", g.Press(2, 3), api.ErrState)
	g.Fault(0, false)
	expect(t, "of a mended one", g.Press(0, 3), api.OK)
	if g.Cars()[2].Stops != (api.Stops{}) || g.Cars()[0].Stops != (api.Stops{Press: 8}) {
		t.Errorf("cars %+v", g.Cars())
	}
}

func TestLoadAndCurtain(t *testing.T) {
	g := group.New(setting)
	for _, kg := range []int{math.MinInt, -1, 0, 75, 10001, math.MaxInt} {
		expect(t, "Load", g.Load(1, kg), api.OK)
		want := plant.New()
		want.Load = kg
		expectCar(t, g, 1, want)
	}
	g.Load(1, 0)
	for _, blocked := range []bool{true, true, false, false} {
		expect(t, "Curtain", g.Curtain(1, blocked), api.OK)
		want := plant.New()
		want.Blocked = blocked
		expectCar(t, g, 1, want)
	}
	// Of leased and broken ones, too.
	g.Take(0, 1)
	g.Fault(2, true)
	for _, car := range []int{0, 2} {
		expect(t, "Load", g.Load(car, 9), api.OK)
		expect(t, "Curtain", g.Curtain(car, true), api.OK)
		if x := g.Cars()[car]; x.Load != 9 || !x.Blocked {
			t.Errorf("car %d: %+v", car, x)
		}
	}
	expectCar(t, g, 1, plant.New())
}

func TestFault(t *testing.T) {
	g := group.New(setting)
	g.Hall(4, api.Down)
	g.Hall(3, api.Up)
	g.Hall(2, api.Up)
	g.Press(0, 1)
	run(g, 2)
	expectWaits(t, g, wait(4, api.Down, 1, 0), wait(3, api.Up, 2, 0), wait(2, api.Up, 0, 0))
	broken := g.Cars()[0]
	expect(t, "breaks", g.Fault(0, true), api.OK)
	expectWaits(t, g, wait(4, api.Down, 1, 0), wait(3, api.Up, 2, 0), wait(2, api.Up, -1, 0))
	broken.Broken, broken.Stops = true, api.Stops{}
	expectCar(t, g, 0, broken)
	expect(t, "breaks again", g.Fault(0, true), api.OK)
	expectCar(t, g, 0, broken)
	run(g, 1)
	if w := g.Waits()[2]; w.Car != 1 && w.Car != 2 || w.Since != 0 {
		t.Errorf("its call is %+v", w)
	}
	expectCar(t, g, 0, broken)
	expect(t, "is mended", g.Fault(0, false), api.OK)
	broken.Broken = false
	expectCar(t, g, 0, broken)
	// What is not broken keeps its calls.
	stopsThere := g.Cars()[1].Stops
	expect(t, "is mended, though whole", g.Fault(1, false), api.OK)
	if got := g.Cars()[1].Stops; got != stopsThere || g.Waits()[0].Car != 1 {
		t.Errorf("a whole car's stops are %+v, were %+v", got, stopsThere)
	}
	// A leased one stays leased.
	g = group.New(setting)
	g.Take(1, 2)
	g.Fault(1, true)
	if x := g.Cars()[1]; x.Mode != api.Leased || !x.Broken || x.Target != 2 || !x.Hold {
		t.Errorf("a broken leased car: %+v", x)
	}
}

func TestAllBroken(t *testing.T) {
	g := group.New(setting)
	for car := range 3 {
		g.Fault(car, true)
	}
	g.Hall(2, api.Up)
	if served := run(g, 50); len(served) != 0 {
		t.Errorf("served %+v", served)
	}
	expectWaits(t, g, wait(2, api.Up, -1, 0))
	g.Fault(2, false)
	run(g, 1)
	expectWaits(t, g, wait(2, api.Up, 2, 0))
	if served := run(g, 20); !slices.Equal(served, []api.Wait{wait(2, api.Up, 2, 0)}) {
		t.Errorf("served %+v", served)
	}
}

func TestTake(t *testing.T) {
	g := group.New(setting)
	g.Load(1, 40)
	expect(t, "Take", g.Take(1, 3), api.OK)
	want := plant.New()
	want.Mode, want.Target, want.Hold, want.Load = api.Leased, 3, true, 40
	expectCar(t, g, 1, want)
	expect(t, "of a leased one", g.Take(1, 2), api.ErrState)
	expectCar(t, g, 1, want)
	g.Press(0, 2)
	expect(t, "of one with stops", g.Take(0, 2), api.ErrState)
	g.Fault(2, true)
	expect(t, "of a broken one", g.Take(2, 2), api.ErrState)
	run(g, 3)
	expect(t, "of one between floors", g.Take(0, 2), api.ErrState)
	run(g, 7)
	if x := g.Cars()[0]; x.Door.State == api.Closed {
		t.Fatalf("%+v", x)
	}
	expect(t, "of one with its door open", g.Take(0, 2), api.ErrState)
	run(g, 30)
	expect(t, "of one that stands", g.Take(0, 0), api.OK)
}

func TestAim(t *testing.T) {
	g := group.New(setting)
	expect(t, "of a normal one", g.Aim(1, 3, true), api.ErrState)
	expectCar(t, g, 1, plant.New())
	g.Take(1, 3)
	expect(t, "Aim", g.Aim(1, 2, false), api.OK)
	want := plant.New()
	want.Mode, want.Target = api.Leased, 2
	expectCar(t, g, 1, want)
	expect(t, "Aim again", g.Aim(1, 0, true), api.OK)
	want.Target, want.Hold = 0, true
	expectCar(t, g, 1, want)
	g.Fault(1, true)
	expect(t, "of a broken one", g.Aim(1, 4, false), api.OK)
	g.Give(1)
	expect(t, "of one that was given", g.Aim(1, 4, false), api.ErrState)
}

func TestGive(t *testing.T) {
	for _, x := range []struct{ dwell, timer int }{{4, 4}, {0, 1}, {-9, 1}, {1000, 1000}, {1001, 1000}, {math.MaxInt, 1000}, {math.MinInt, 1}} {
		c := setting
		c.Dwell = x.dwell
		g := group.New(c)
		expect(t, "of a normal one", g.Give(1), api.ErrState)
		expectCar(t, g, 1, plant.New())
		g.Take(1, 3)
		g.Load(1, 8)
		run(g, 4)
		if car := g.Cars()[1]; car.Unit != 4 || car.Way != api.Up {
			t.Fatalf("%+v", car)
		}
		expect(t, "at a floor", g.Give(1), api.OK)
		want := plant.New()
		want.Unit, want.Timer, want.Load = 4, x.timer, 8
		expectCar(t, g, 1, want)
		expect(t, "again", g.Give(1), api.ErrState)
		g.Take(1, 0)
		run(g, 1)
		expect(t, "between floors", g.Give(1), api.OK)
		want.Unit, want.Way = 3, api.Down
		expectCar(t, g, 1, want)
	}
}

func TestGiveAtTheFloorThatWasServed(t *testing.T) {
	g := group.New(setting)
	g.Press(0, 0)
	run(g, 20)
	if x := g.Cars()[0]; x.Just != 0 || !carctl.Idle(x) {
		t.Fatalf("%+v", x)
	}
	g.Take(0, 0)
	run(g, 4)
	g.Give(0)
	x := g.Cars()[0]
	if x.Just != -1 || x.Timer != 4 || x.Door.State != api.Open || x.Mode != api.Normal || x.Target != 0 || x.Hold {
		t.Errorf("%+v", x)
	}
	run(g, 10)
	if x := g.Cars()[0]; x.Door.State != api.Closed {
		t.Errorf("its door stays open: %+v", x)
	}
}

func TestTickGivesCallsToTheBest(t *testing.T) {
	g := group.New(setting)
	g.Take(1, 4)
	run(g, 20)
	g.Aim(1, 4, false)
	run(g, 5)
	g.Give(1)
	// Car 1 is at floor 4, the others at 0.
	now := g.Now()
	g.Hall(3, api.Down)
	g.Hall(1, api.Up)
	g.Hall(2, api.Down)
	if served := g.Tick(); len(served) != 0 {
		t.Errorf("served %+v", served)
	}
	expectWaits(t, g, wait(3, api.Down, 1, now), wait(1, api.Up, 0, now), wait(2, api.Down, 2, now))
	if s := g.Cars()[1].Stops; s != (api.Stops{Down: 8}) {
		t.Errorf("stops %+v", s)
	}
}

func TestServedInTheOrderOfCars(t *testing.T) {
	g := group.New(setting)
	g.Take(0, 4)
	run(g, 20)
	g.Aim(0, 4, false)
	run(g, 5)
	g.Give(0)
	now := g.Now()
	// The call of car 1 is older than that of car 0, and both are served in one tick.
	g.Hall(0, api.Up)
	g.Hall(4, api.Down)
	if served := g.Tick(); !slices.Equal(served, []api.Wait{wait(4, api.Down, 0, now), wait(0, api.Up, 1, now)}) {
		t.Errorf("served %+v", served)
	}
	expectWaits(t, g)
}

func TestNoCallsForLeasedCars(t *testing.T) {
	c := setting
	c.Cars = 2
	g := group.New(c)
	g.Take(0, 0)
	g.Hall(0, api.Up)
	served := g.Tick()
	if !slices.Equal(served, []api.Wait{wait(0, api.Up, 1, 0)}) {
		t.Errorf("served %+v", served)
	}
	g.Fault(1, true)
	g.Hall(2, api.Up)
	run(g, 3)
	expectWaits(t, g, wait(2, api.Up, -1, 1))
	g.Give(0)
	run(g, 1)
	expectWaits(t, g, wait(2, api.Up, 0, 1))
}

func TestMemory(t *testing.T) {
	g := group.New(setting)
	g.Hall(2, api.Up)
	g.Hall(4, api.Down)
	cars, waits := g.Cars(), g.Waits()
	for i := range cars[:cap(cars)] {
		cars[:cap(cars)][i] = api.Car{Unit: 99}
	}
	for i := range waits[:cap(waits)] {
		waits[:cap(waits)][i] = wait(9, 9, 9, 9)
	}
	g.Hall(1, api.Up)
	expectCar(t, g, 0, plant.New())
	expectWaits(t, g, wait(2, api.Up, -1, 0), wait(4, api.Down, -1, 0), wait(1, api.Up, -1, 0))
	kept, keptCars := g.Waits(), g.Cars()
	run(g, 100)
	if !slices.Equal(kept, []api.Wait{wait(2, api.Up, -1, 0), wait(4, api.Down, -1, 0), wait(1, api.Up, -1, 0)}) || keptCars[0] != plant.New() {
		t.Errorf("answers change: %+v %+v", kept, keptCars)
	}
	g.Hall(0, api.Up)
	g.Tick()
	other := group.New(setting)
	if other.Now() != 0 || len(other.Waits()) != 0 || other.Cars()[0] != plant.New() {
		t.Error("one group has what another one has")
	}
}

func TestAnswersStay(t *testing.T) {
	g := group.New(setting)
	g.Hall(0, api.Up)
	first := g.Tick()
	g.Hall(3, api.Down)
	if later := run(g, 60); len(later) != 1 || !slices.Equal(first, []api.Wait{wait(0, api.Up, 0, 0)}) {
		t.Errorf("an answer changes: %+v, later %+v", first, later)
	}
}

func TestNow(t *testing.T) {
	g := group.New(setting)
	for n := range 50 {
		if g.Now() != n {
			t.Fatalf("Now %d behind %d ticks", g.Now(), n)
		}
		g.Tick()
	}
}

// model is a group by the chapter's words, over the calls of the layers below.
type model struct {
	c     api.Config
	cars  []api.Car
	waits []api.Wait
	now   int
}

func (m *model) tick() []api.Wait {
	m.now++
	for i, w := range m.waits {
		if w.Car >= 0 {
			continue
		}
		if best := eta.Best(m.c, m.cars, w.Call); best >= 0 {
			m.waits[i].Car = best
			m.cars[best].Stops = stops.Hall(m.cars[best].Stops, w.Floor, w.Way)
		}
	}
	var served []api.Wait
	for car := range m.cars {
		x, call, is := carctl.Tick(m.c, m.cars[car])
		m.cars[car] = x
		if !is {
			continue
		}
		var rest []api.Wait
		for _, w := range m.waits {
			if w.Call == call {
				served = append(served, w)
			} else {
				rest = append(rest, w)
			}
		}
		m.waits = rest
	}
	return served
}

func (m *model) do(n, car, floor, way, kg int) api.Errno {
	isCar, isFloor := car >= 0 && car < len(m.cars), floor >= 0 && floor < m.c.Floors
	if n == 0 {
		if !isFloor || way != api.Up && way != api.Down || way == api.Up && floor == m.c.Floors-1 || way == api.Down && floor == 0 {
			return api.ErrArg
		}
		for _, w := range m.waits {
			if w.Floor == floor && w.Way == way {
				return api.OK
			}
		}
		m.waits = append(m.waits, wait(floor, way, -1, m.now))
		return api.OK
	}
	if !isCar || !isFloor && (n == 1 || n == 5 || n == 6) {
		return api.ErrArg
	}
	x := &m.cars[car]
	leased := x.Mode == api.Leased
	switch n {
	case 1:
		if x.Broken || leased {
			return api.ErrState
		}
		x.Stops.Press |= 1 << floor
	case 2:
		x.Load = kg
	case 3:
		x.Blocked = kg == 0
	case 4:
		x.Broken = kg == 0
		if x.Broken {
			x.Stops = api.Stops{}
			for i := range m.waits {
				if m.waits[i].Car == car {
					m.waits[i].Car = -1
				}
			}
		}
	case 5:
		if !carctl.Idle(*x) {
			return api.ErrState
		}
		x.Mode, x.Target, x.Hold = api.Leased, floor, true
	case 6:
		if !leased {
			return api.ErrState
		}
		x.Target, x.Hold = floor, kg == 0
	case 7:
		if !leased {
			return api.ErrState
		}
		x.Mode, x.Target, x.Hold, x.Just, x.Timer = api.Normal, 0, false, -1, m.c.Dwell
		if x.Unit%4 == 0 {
			x.Way = api.Still
		}
	}
	return api.OK
}

func do(g *group.Group, n, car, floor, way, kg int) api.Errno {
	switch n {
	case 0:
		return g.Hall(floor, way)
	case 1:
		return g.Press(car, floor)
	case 2:
		return g.Load(car, kg)
	case 3:
		return g.Curtain(car, kg == 0)
	case 4:
		return g.Fault(car, kg == 0)
	case 5:
		return g.Take(car, floor)
	case 6:
		return g.Aim(car, floor, kg == 0)
	}
	return g.Give(car)
}

func TestDrawnAgainstModel(t *testing.T) {
	for seed := range 150 {
		r := rand.New(rand.NewSource(int64(seed)))
		c := api.Config{Cars: 1 + r.Intn(8), Floors: 2 + r.Intn(7), Door: 1 + r.Intn(3), Dwell: 1 + r.Intn(5), Load: 600}
		g, m := group.New(c), &model{c: c}
		for range c.Cars {
			m.cars = append(m.cars, plant.New())
		}
		for step := range 400 {
			if r.Intn(2) == 0 {
				n, car, floor, way, kg := r.Intn(8), r.Intn(c.Cars+2)-1, r.Intn(c.Floors+2)-1, r.Intn(4), r.Intn(3)*400
				if n == 4 && r.Intn(4) > 0 {
					kg = 400
				}
				if got, want := do(g, n, car, floor, way, kg), m.do(n, car, floor, way, kg); got != want {
					t.Fatalf("seed %d, step %d: call %d of %d %d %d %d: %d, want %d", seed, step, n, car, floor, way, kg, got, want)
				}
			} else if got, want := g.Tick(), m.tick(); !slices.Equal(got, want) {
				t.Fatalf("seed %d, step %d: served %+v, want %+v", seed, step, got, want)
			}
			if !slices.Equal(g.Cars(), m.cars) || !slices.Equal(g.Waits(), m.waits) || g.Now() != m.now {
				t.Fatalf("seed %d, step %d:\n%+v %+v %d, want\n%+v %+v %d", seed, step, g.Cars(), g.Waits(), g.Now(), m.cars, m.waits, m.now)
			}
		}
	}
}

// TestServedInTime has P16.5: people only, who call and press as they like, at times very much.
func TestServedInTime(t *testing.T) {
	for seed := range 60 {
		r := rand.New(rand.NewSource(int64(seed)))
		c := api.Config{Cars: 1 + r.Intn(3), Floors: 2 + r.Intn(9), Door: 1 + r.Intn(4), Dwell: 1 + r.Intn(6), Load: 600}
		bound := 5 * (4*(c.Floors-1) + c.Floors*(2*c.Door+c.Dwell+4))
		g := group.New(c)
		often := 1 + r.Intn(20)
		served := 0
		for range 6 * bound {
			if r.Intn(often) == 0 {
				g.Hall(r.Intn(c.Floors), 1+r.Intn(2))
			}
			if r.Intn(often) == 0 {
				g.Press(r.Intn(c.Cars), r.Intn(c.Floors))
			}
			if r.Intn(9) == 0 {
				g.Load(r.Intn(c.Cars), r.Intn(601))
			}
			served += len(g.Tick())
			for _, w := range g.Waits() {
				if g.Now()-w.Since > bound {
					t.Fatalf("seed %d, %+v: %+v waits at %d, bound %d", seed, c, w, g.Now(), bound)
				}
			}
		}
		if served == 0 {
			t.Errorf("seed %d: nothing was served", seed)
		}
	}
}

func TestOneCallIsServedInTime(t *testing.T) {
	for floors := 2; floors <= 12; floors++ {
		for from := range floors {
			for floor := range floors {
				for way := 1; way <= 2; way++ {
					c := api.Config{Cars: 1, Floors: floors, Door: 0, Dwell: -5, Load: 600}
					g := group.New(c)
					g.Press(0, from)
					run(g, 4*floors+20)
					if g.Hall(floor, way) != api.OK {
						continue
					}
					if served := run(g, 5*(4*(floors-1)+floors*7)); len(served) != 1 {
						t.Fatalf("%d floors, from %d: %d way %d was not served", floors, from, floor, way)
					}
				}
			}
		}
	}
}
