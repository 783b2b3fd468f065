package core_test

import (
	"math"
	"math/rand"
	"slices"
	"testing"

	"liftwell/api"
	"liftwell/carctl"
	"liftwell/core"
	"liftwell/group"
	"liftwell/lease"
	"liftwell/ride"
)

// A trip takes 4*3 + 3*2 + 4 = 22 ticks.
var setting = api.Config{Cars: 2, Floors: 4, Fleets: 3, Sessions: 8, Door: 2, Dwell: 3, Hold: 10, Renew: 2, Yield: 15,
	Queue: 2, Quota: 2, Load: 600, Slack: 5}

func ask(session, fleet, from, to int) api.Ask {
	return api.Ask{Session: session, Fleet: fleet, From: from, To: to, Mass: 100}
}

func said(session, kind, a int) api.Event {
	return api.Event{Session: session, Msg: api.Msg{Kind: kind, A: a}}
}

func expect(t *testing.T, name string, got []api.Event, want ...api.Event) {
	t.Helper()
	if !slices.Equal(got, want) {
		t.Errorf("%s: %+v, want %+v", name, got, want)
	}
}

func expectTick(t *testing.T, name string, k *core.Core, want ...api.Event) {
	t.Helper()
	got, _ := k.Tick()
	expect(t, name, got, want...)
}

// until ticks till something is said, and answers that, and how many ticks it took.
func until(t *testing.T, k *core.Core) ([]api.Event, int) {
	t.Helper()
	for n := 1; n <= 500; n++ {
		if list, _ := k.Tick(); len(list) > 0 {
			return list, n
		}
	}
	t.Fatal("nothing is said")
	return nil, 0
}

func run(k *core.Core, ticks int) []api.Event {
	var list []api.Event
	for range ticks {
		more, _ := k.Tick()
		list = append(list, more...)
	}
	return list
}

func hear(k *core.Core, session, kind int) []api.Event {
	return k.Hear(session, api.Msg{Kind: kind})
}

// with is the setting with a change.
func with(change func(c *api.Config)) api.Config {
	c := setting
	change(&c)
	return c
}

func cars(n int) func(c *api.Config) {
	return func(c *api.Config) { c.Cars = n }
}

func TestChapter(t *testing.T) {
	k := core.New(setting)
	expect(t, "Ask", k.Ask(ask(3, 1, 0, 2)), said(3, api.Queued, 0))
	expectTick(t, "Tick", k, said(3, api.Grant, 0))
}

func TestNilCore(t *testing.T) {
	var k *core.Core
	k.Gone(0)
	list, served := k.Tick()
	if len(k.Ask(ask(0, 0, 0, 1))) != 0 || len(hear(k, 0, api.Entered)) != 0 || len(list) != 0 || len(served) != 0 ||
		k.Group() != nil || len(k.Leases()) != 0 || len(k.Queue()) != 0 {
		t.Error("a nil *Core says something")
	}
}

func TestNew(t *testing.T) {
	k := core.New(setting)
	if len(k.Leases()) != 0 || len(k.Queue()) != 0 || k.Group() == nil || k.Group().Now() != 0 || len(k.Group().Cars()) != 2 {
		t.Error("a new core")
	}
	if k.Group() != k.Group() {
		t.Error("Group is the object itself")
	}
	if list, served := k.Tick(); len(list) != 0 || len(served) != 0 || k.Group().Now() != 1 {
		t.Errorf("Tick of a new core: %+v %+v", list, served)
	}
}

func TestAsk(t *testing.T) {
	k := core.New(setting)
	for _, a := range []api.Ask{
		ask(-1, 1, 0, 2), ask(8, 1, 0, 2), ask(3, -1, 0, 2), ask(3, 3, 0, 2), ask(3, 1, -1, 2), ask(3, 1, 4, 2), ask(3, 1, 0, 4), ask(3, 1, 2, 2),
		{Session: 3, Fleet: 1, From: 0, To: 2, Mass: 0}, {Session: 3, Fleet: 1, From: 0, To: 2, Mass: 601}, {Session: math.MinInt, Mass: math.MaxInt},
	} {
		expect(t, "what may not be", k.Ask(a), said(a.Session, api.Deny, 0))
	}
	if len(k.Queue()) != 0 {
		t.Errorf("queue %+v", k.Queue())
	}
	expect(t, "the first", k.Ask(ask(3, 1, 0, 2)), said(3, api.Queued, 0))
	expect(t, "it again", k.Ask(ask(3, 1, 0, 2)), said(3, api.Deny, 5))
	expect(t, "it again, as another fleet", k.Ask(ask(3, 2, 1, 3)), said(3, api.Deny, 5))
	expect(t, "it again, as may not be", k.Ask(ask(3, 1, 2, 2)), said(3, api.Deny, 0))
	expect(t, "the second", k.Ask(ask(0, 1, 3, 0)), said(0, api.Queued, 1))
	expect(t, "one too many", k.Ask(ask(5, 1, 3, 0)), said(5, api.Busy, 0))
	expect(t, "one too many, as may not be", k.Ask(ask(5, 1, 3, 3)), said(5, api.Deny, 0))
	expect(t, "who waits, and full", k.Ask(ask(0, 1, 3, 0)), said(0, api.Deny, 5))
	if !slices.Equal(k.Queue(), []api.Ask{ask(3, 1, 0, 2), ask(0, 1, 3, 0)}) {
		t.Errorf("queue %+v", k.Queue())
	}
	expectTick(t, "the first is granted", k, said(3, api.Grant, 0))
	expect(t, "who has a lease", k.Ask(ask(3, 1, 0, 2)), said(3, api.Deny, 5))
	expect(t, "with room again", k.Ask(ask(5, 1, 3, 0)), said(5, api.Queued, 1))
	expect(t, "who has a lease, and full", k.Ask(ask(3, 1, 0, 2)), said(3, api.Deny, 5))
	if !slices.Equal(k.Queue(), []api.Ask{ask(0, 1, 3, 0), ask(5, 1, 3, 0)}) {
		t.Errorf("queue %+v", k.Queue())
	}
}

func TestRoomOfTheQueue(t *testing.T) {
	for _, x := range []struct{ queue, room int }{{-1, 0}, {0, 0}, {1, 1}, {5, 5}, {64, 8}, {math.MaxInt, 8}, {math.MinInt, 0}} {
		k := core.New(with(func(c *api.Config) { c.Queue = x.queue }))
		for session := range 8 {
			want := said(session, api.Queued, session)
			if session >= x.room {
				want = said(session, api.Busy, 0)
			}
			expect(t, "Ask", k.Ask(ask(session, 0, 1, 2)), want)
		}
	}
}

func TestHearWithoutALease(t *testing.T) {
	k := core.New(setting)
	for _, session := range []int{math.MinInt, -1, 0, 3, 8, math.MaxInt} {
		for _, kind := range []int{0, api.Request, api.Entered, api.Exited, api.Renew, 99} {
			expect(t, "Hear", hear(k, session, kind), said(session, api.Deny, 0))
		}
	}
	k.Ask(ask(3, 1, 0, 2))
	expect(t, "of one that waits", hear(k, 3, api.Renew), said(3, api.Deny, 0))
	if len(k.Queue()) != 1 {
		t.Error("it waits no more")
	}
}

func TestWholeRide(t *testing.T) {
	k := core.New(setting)
	k.Ask(ask(3, 1, 1, 3))
	expectTick(t, "granted", k, said(3, api.Grant, 0))
	granted := api.Lease{Ask: ask(3, 1, 1, 3), Car: 0, Phase: api.Fetch, Until: 23, Granted: 1}
	if got := k.Leases(); !slices.Equal(got, []api.Lease{granted}) || len(k.Queue()) != 0 {
		t.Errorf("leases %+v, queue %+v", got, k.Queue())
	}
	if x := k.Group().Cars()[0]; x.Mode != api.Leased || x.Target != 1 || !x.Hold || x.Unit != 0 {
		t.Errorf("car %+v", x)
	}
	expect(t, "too early", hear(k, 3, api.Entered), said(3, api.Deny, 1))
	// Four units, and two ticks of the door.
	list, n := until(t, k)
	expect(t, "arrived", list, said(3, api.Arrived, 1))
	if l := k.Leases()[0]; n != 6 || l.Phase != api.Board || l.Until != 17 || l.Granted != 1 || l.Renewed != 0 {
		t.Errorf("behind %d ticks %+v", n, l)
	}
	run(k, 4)
	k.Group().Load(0, 56)
	expect(t, "too light", hear(k, 3, api.Entered), said(3, api.Reject, 56))
	expect(t, "more time", hear(k, 3, api.Renew), said(3, api.Grant, 0))
	if l := k.Leases()[0]; l.Phase != api.Board || l.Until != 21 || l.Renewed != 1 {
		t.Errorf("renewed %+v", l)
	}
	k.Group().Load(0, 102)
	expect(t, "exited in Board", hear(k, 3, api.Exited), said(3, api.Deny, 2))
	expect(t, "entered", hear(k, 3, api.Entered), said(3, api.RideOK, 0))
	if l, x := k.Leases()[0], k.Group().Cars()[0]; l.Phase != api.Go || l.Until != 33 || x.Target != 3 || !x.Hold {
		t.Errorf("goes %+v %+v", l, x)
	}
	expect(t, "entered again", hear(k, 3, api.Entered), said(3, api.Deny, 3))
	// Two ticks of the door, eight units, and two ticks more.
	list, n = until(t, k)
	expect(t, "there", list, said(3, api.Exit, 3))
	if l := k.Leases()[0]; n != 12 || l.Phase != api.Leave || l.Until != k.Group().Now()+10 {
		t.Errorf("behind %d ticks %+v", n, l)
	}
	k.Group().Load(0, 0)
	expect(t, "exited", hear(k, 3, api.Exited), said(3, api.ExitOK, 0))
	if x := k.Group().Cars()[0]; len(k.Leases()) != 0 || x.Mode != api.Normal || x.Target != 0 || x.Hold || x.Timer != 3 {
		t.Errorf("%+v %+v", k.Leases(), x)
	}
	expect(t, "exited again", hear(k, 3, api.Exited), said(3, api.Deny, 0))
	run(k, 20)
	if !carctl.Idle(k.Group().Cars()[0]) {
		t.Errorf("car %+v", k.Group().Cars()[0])
	}
	expect(t, "once more", k.Ask(ask(3, 1, 1, 3)), said(3, api.Queued, 0))
}

func TestEvictByTime(t *testing.T) {
	k := core.New(setting)
	k.Ask(ask(3, 1, 1, 3))
	run(k, 1)
	list, _ := until(t, k)
	expect(t, "arrived", list, said(3, api.Arrived, 1))
	list, n := until(t, k)
	expect(t, "silent in Board", list, said(3, api.Evict, api.Board))
	if n != 10 || len(k.Leases()) != 0 || k.Group().Cars()[0].Mode != api.Normal {
		t.Errorf("behind %d ticks %+v", n, k.Leases())
	}
	run(k, 30)
	// A car whose door can't close does not arrive in time.
	k.Group().Load(0, 0)
	k.Ask(ask(3, 1, 1, 3))
	run(k, 1)
	for len(k.Leases()) > 0 && k.Leases()[0].Phase == api.Fetch {
		run(k, 1)
	}
	k.Group().Load(k.Leases()[0].Car, 100)
	expect(t, "entered", hear(k, 3, api.Entered), said(3, api.RideOK, 0))
	k.Group().Curtain(k.Leases()[0].Car, true)
	list, n = until(t, k)
	expect(t, "blocked in Go", list, said(3, api.Evict, api.Go))
	if n != 22 {
		t.Errorf("behind %d ticks", n)
	}
}

func TestEvictByAFault(t *testing.T) {
	for _, ticks := range []int{1, 3, 7, 12} {
		k := core.New(setting)
		k.Ask(ask(3, 1, 1, 3))
		run(k, ticks)
		phase := k.Leases()[0].Phase
		k.Group().Fault(0, true)
		expectTick(t, "broken", k, said(3, api.Evict, phase))
		if x := k.Group().Cars()[0]; len(k.Leases()) != 0 || x.Mode != api.Normal || !x.Broken {
			t.Errorf("%+v %+v", k.Leases(), x)
		}
	}
}

func TestGone(t *testing.T) {
	k := core.New(setting)
	k.Ask(ask(3, 1, 1, 3))
	k.Ask(ask(4, 1, 1, 3))
	run(k, 3)
	k.Gone(9)
	k.Gone(math.MinInt)
	if len(k.Leases()) != 1 || len(k.Queue()) != 1 {
		t.Fatalf("%+v %+v", k.Leases(), k.Queue())
	}
	k.Gone(4)
	if len(k.Leases()) != 1 || len(k.Queue()) != 0 {
		t.Errorf("who waits is gone: %+v %+v", k.Leases(), k.Queue())
	}
	k.Gone(3)
	x := k.Group().Cars()[0]
	if len(k.Leases()) != 0 || x.Mode != api.Normal || x.Timer != 3 || x.Just != -1 {
		t.Errorf("who has a lease is gone: %+v %+v", k.Leases(), x)
	}
	k.Gone(3)
	if list := run(k, 40); len(list) != 0 {
		t.Errorf("said %+v", list)
	}
	expect(t, "it asks again", k.Ask(ask(3, 1, 1, 3)), said(3, api.Queued, 0))
}

func TestNoGrantForFewerThanTwoCars(t *testing.T) {
	one := core.New(with(cars(1)))
	one.Ask(ask(3, 1, 0, 2))
	if list := run(one, 60); len(list) != 0 {
		t.Errorf("one car: %+v", list)
	}
	k := core.New(setting)
	k.Ask(ask(3, 1, 0, 2))
	k.Ask(ask(4, 1, 0, 2))
	expectTick(t, "the first", k, said(3, api.Grant, 0))
	for range 8 {
		expectTickOf(t, k, api.Arrived)
	}
	if len(k.Queue()) != 1 {
		t.Errorf("queue %+v", k.Queue())
	}
	k.Gone(3)
	run(k, 1)
	expectNext(t, k, said(4, api.Grant, 1))
	broken := core.New(with(cars(3)))
	broken.Group().Fault(0, true)
	broken.Group().Fault(2, true)
	broken.Ask(ask(3, 1, 0, 2))
	if list := run(broken, 40); len(list) != 0 {
		t.Errorf("one car is whole: %+v", list)
	}
	broken.Group().Fault(2, false)
	expectTick(t, "two cars are whole", broken, said(3, api.Grant, 1))
}

// expectTickOf allows just one kind of message.
func expectTickOf(t *testing.T, k *core.Core, kind int) {
	t.Helper()
	list, _ := k.Tick()
	for _, e := range list {
		if e.Msg.Kind != kind {
			t.Errorf("said %+v", list)
		}
	}
}

// expectNext allows that it was said a tick ago.
func expectNext(t *testing.T, k *core.Core, want api.Event) {
	t.Helper()
	if l := k.Leases(); len(l) != 1 || l[0].Session != want.Session || l[0].Car != want.Msg.A {
		t.Errorf("leases %+v, want %+v", l, want)
	}
}

func TestOneGrantATick(t *testing.T) {
	k := core.New(with(func(c *api.Config) { c.Cars, c.Queue = 4, 8 }))
	for session := range 5 {
		k.Ask(ask(session, session%3, 3, 2))
	}
	for n := range 3 {
		expectTick(t, "one a tick", k, said(n, api.Grant, n))
	}
	// The last car is people's.
	for range 5 {
		expectTick(t, "no more", k)
	}
	if len(k.Leases()) != 3 || len(k.Queue()) != 2 {
		t.Errorf("%+v %+v", k.Leases(), k.Queue())
	}
}

// TestYieldTillItIsServed has three cars, of which the one that has the old call can't leave its floor for long.
func TestYieldTillItIsServed(t *testing.T) {
	for _, yield := range []int{15, 1, 0, -7, math.MinInt} {
		k := core.New(with(func(c *api.Config) { c.Cars, c.Yield = 3, yield }))
		k.Group().Press(0, 0)
		k.Group().Fault(1, true)
		k.Group().Fault(2, true)
		run(k, 3)
		k.Group().Curtain(0, true)
		k.Group().Hall(1, api.Up)
		run(k, 20)
		k.Group().Fault(1, false)
		k.Group().Fault(2, false)
		k.Ask(ask(3, 1, 0, 2))
		if list := run(k, 20); len(list) != 0 || len(k.Group().Waits()) != 1 {
			t.Errorf("Yield %d: said %+v, while %+v wait", yield, list, k.Group().Waits())
		}
		k.Group().Curtain(0, false)
		for n := 0; len(k.Leases()) == 0; n++ {
			_, served := k.Tick()
			if granted := len(k.Leases()) > 0; granted != (len(served) > 0) || n > 60 {
				t.Fatalf("Yield %d: granted %t, served %+v", yield, granted, served)
			}
		}
	}
}

// TestYieldToTheTick asks one tick ahead of the last one that may be, and one tick behind it.
func TestYieldToTheTick(t *testing.T) {
	for _, late := range []bool{false, true} {
		k := core.New(with(func(c *api.Config) { c.Cars = 3 }))
		for car := range 3 {
			k.Group().Fault(car, true)
		}
		k.Group().Hall(2, api.Up)
		run(k, 14)
		if late {
			run(k, 1)
		}
		k.Ask(ask(1, 1, 0, 2))
		k.Group().Fault(1, false)
		k.Group().Fault(2, false)
		// The call is given to car 1 in this tick, and waits for 15 ticks, or for 16.
		if late {
			expectTick(t, "too old", k)
		} else {
			expectTick(t, "old enough", k, said(1, api.Grant, 2))
		}
	}
}

func TestYieldIsAtMost1000(t *testing.T) {
	for _, late := range []bool{false, true} {
		k := core.New(with(func(c *api.Config) { c.Cars, c.Yield = 3, math.MaxInt }))
		for car := range 3 {
			k.Group().Fault(car, true)
		}
		k.Group().Hall(2, api.Up)
		run(k, 999)
		if late {
			run(k, 1)
		}
		k.Ask(ask(1, 1, 0, 2))
		k.Group().Fault(1, false)
		k.Group().Fault(2, false)
		list, _ := k.Tick()
		if granted := len(list) == 1; granted == late {
			t.Errorf("late %t: %+v", late, list)
		}
	}
}

func TestWhichCar(t *testing.T) {
	for _, x := range []struct {
		name   string
		change func(g *group.Group)
		from   int
		car    int
	}{
		{"the least number", func(g *group.Group) {}, 2, 0},
		{"not one with a stop", func(g *group.Group) { g.Press(0, 3) }, 0, 1},
		{"not a blocked one", func(g *group.Group) { g.Curtain(0, true) }, 0, 1},
		{"not a loaded one", func(g *group.Group) { g.Load(0, 1) }, 0, 1},
		{"one with less than no load", func(g *group.Group) { g.Load(0, -1) }, 0, 0},
		{"not a broken one", func(g *group.Group) { g.Fault(0, true) }, 0, 1},
		{"no one is idle", func(g *group.Group) {
			for car := range 3 {
				g.Press(car, 3)
			}
		}, 0, -1},
		{"all are blocked or loaded", func(g *group.Group) { g.Curtain(0, true); g.Load(1, 50); g.Curtain(2, true) }, 0, -1},
	} {
		k := core.New(with(cars(3)))
		x.change(k.Group())
		k.Ask(ask(3, 1, x.from, 1))
		if x.car < 0 {
			expectTick(t, x.name, k)
			if len(k.Queue()) != 1 || len(k.Leases()) != 0 {
				t.Errorf("%s: %+v %+v", x.name, k.Queue(), k.Leases())
			}
			continue
		}
		expectTick(t, x.name, k, said(3, api.Grant, x.car))
	}
}

func TestNearestCar(t *testing.T) {
	for from := range 4 {
		k := core.New(with(cars(4)))
		for car, floor := range []int{3, 0, 2, 2} {
			k.Group().Press(car, floor)
		}
		run(k, 40)
		k.Ask(ask(3, 1, from, (from+1)%4))
		// Floor 1 is as far from 0 as from 2.
		want := []int{1, 1, 2, 0}[from]
		expectTick(t, "the nearest", k, said(3, api.Grant, want))
		if x := k.Group().Cars()[want]; x.Target != from || !x.Hold || x.Mode != api.Leased {
			t.Errorf("car %+v", x)
		}
	}
}

func TestQuota(t *testing.T) {
	for _, x := range []struct{ quota, counts int }{{-1, 1}, {0, 1}, {1, 1}, {2, 2}, {3, 3}} {
		k := core.New(with(func(c *api.Config) { c.Cars, c.Queue, c.Quota = 6, 8, x.quota }))
		for session := range 6 {
			fleet := 1
			if session == 4 {
				fleet = 2
			}
			k.Ask(ask(session, fleet, 0, 2))
		}
		var want []api.Event
		for n := range x.counts {
			want = append(want, said(n, api.Grant, n))
		}
		want = append(want, said(4, api.Grant, x.counts))
		// One of another fleet goes ahead of those that wait for their own.
		var got []api.Event
		for _, e := range run(k, 5) {
			if e.Msg.Kind == api.Grant {
				got = append(got, e)
			}
		}
		expect(t, "quota", got, want...)
		if len(k.Queue()) != 5-x.counts {
			t.Errorf("Quota %d: queue %+v", x.quota, k.Queue())
		}
	}
}

func TestQuotaOfTheLastFleet(t *testing.T) {
	k := core.New(with(func(c *api.Config) { c.Cars, c.Queue, c.Quota, c.Fleets = 8, 8, 1, 8 }))
	for n, fleet := range []int{7, 7, 0, 0, 6} {
		k.Ask(ask(n, fleet, 0, 2))
	}
	var got []api.Event
	for _, e := range run(k, 6) {
		if e.Msg.Kind == api.Grant {
			got = append(got, e)
		}
	}
	expect(t, "quota", got, said(0, api.Grant, 0), said(2, api.Grant, 1), said(4, api.Grant, 2))
}

func TestFirstOfTheQueueAlone(t *testing.T) {
	// The first one's turn does not go over, where no car is free for it.
	k := core.New(with(cars(3)))
	for car := range 3 {
		k.Group().Load(car, 10)
	}
	k.Ask(ask(3, 1, 3, 0))
	k.Ask(ask(4, 2, 0, 1))
	run(k, 5)
	k.Group().Load(1, 0)
	expectTick(t, "the first", k, said(3, api.Grant, 1))
	expectTick(t, "no other car is free", k)
}

func TestServedIsTold(t *testing.T) {
	k := core.New(setting)
	k.Group().Hall(0, api.Up)
	k.Ask(ask(3, 1, 0, 2))
	list, served := k.Tick()
	expect(t, "the other car", list, said(3, api.Grant, 1))
	if len(served) != 1 || served[0] != (api.Wait{Call: api.Call{Floor: 0, Way: api.Up}, Car: 0}) {
		t.Errorf("served %+v", served)
	}
}

func TestSaidInTheOrderOfLeases(t *testing.T) {
	k := core.New(with(func(c *api.Config) { c.Cars, c.Queue = 4, 8 }))
	for _, session := range []int{5, 2, 7} {
		k.Ask(ask(session, session%3, 0, 2))
	}
	run(k, 3)
	for car := range 3 {
		k.Group().Fault(car, true)
	}
	k.Group().Fault(3, false)
	var order []int
	list, _ := k.Tick()
	for _, e := range list {
		if e.Msg.Kind != api.Evict {
			t.Errorf("said %+v", list)
		}
		order = append(order, e.Session)
	}
	if !slices.Equal(order, []int{5, 2, 7}) {
		t.Errorf("said %+v", list)
	}
}

func TestEndedCarIsNotGrantedAtOnce(t *testing.T) {
	// A lease that ends by a Tick makes its car people's in that Tick.
	k := core.New(with(func(c *api.Config) { c.Hold = 1 }))
	k.Ask(ask(3, 1, 1, 2))
	k.Ask(ask(4, 1, 0, 2))
	run(k, 1)
	list, _ := until(t, k)
	expect(t, "arrived", list, said(3, api.Arrived, 1))
	list, _ = k.Tick()
	expect(t, "over, and the next one", list, said(3, api.Evict, api.Board), said(4, api.Grant, 1))
}

func TestMemory(t *testing.T) {
	k := core.New(with(func(c *api.Config) { c.Cars, c.Queue = 4, 8 }))
	for session := range 5 {
		k.Ask(ask(session, session%3, 3, 2))
	}
	run(k, 2)
	leases, waits := k.Leases(), k.Queue()
	keptLeases, keptWaits := slices.Clone(leases), slices.Clone(waits)
	for i := range leases[:cap(leases)] {
		leases[:cap(leases)][i] = api.Lease{}
	}
	for i := range waits[:cap(waits)] {
		waits[:cap(waits)][i] = api.Ask{}
	}
	if !slices.Equal(k.Leases(), keptLeases) || !slices.Equal(k.Queue(), keptWaits) {
		t.Error("answers are the core's own")
	}
	first := hear(k, 0, api.Renew)
	first[0] = api.Event{}
	expect(t, "again", hear(k, 0, api.Renew), said(0, api.Deny, 1))
	leases = k.Leases()
	run(k, 60)
	if !slices.Equal(leases, keptLeases) {
		t.Error("an answer changes")
	}
	other := core.New(setting)
	if len(other.Leases())+len(other.Queue()) != 0 || other.Group().Now() != 0 {
		t.Error("one core has what another one has")
	}
}

func TestAnswersStay(t *testing.T) {
	k := core.New(setting)
	asked := k.Ask(ask(3, 1, 1, 3))
	granted, _ := k.Tick()
	heard := hear(k, 3, api.Renew)
	k.Ask(ask(4, 1, 1, 3))
	k.Group().Hall(0, api.Up)
	_, served := k.Tick()
	hear(k, 4, api.Exited)
	k.Group().Hall(3, api.Down)
	if list := run(k, 200); len(list) < 3 {
		t.Errorf("said %+v", list)
	}
	expect(t, "Ask, later", asked, said(3, api.Queued, 0))
	expect(t, "Tick, later", granted, said(3, api.Grant, 0))
	expect(t, "Hear, later", heard, said(3, api.Deny, 1))
	if !slices.Equal(served, []api.Wait{{Call: api.Call{Floor: 0, Way: api.Up}, Car: 1, Since: 1}}) {
		t.Errorf("served, later: %+v", served)
	}
}

// model is a core by the chapter's words, with a group of its own.
type model struct {
	c      api.Config
	g      *group.Group
	waits  []api.Ask
	leases []api.Lease
}

func (m *model) of(session int) int {
	return slices.IndexFunc(m.leases, func(l api.Lease) bool { return l.Session == session })
}

func (m *model) waiting(session int) int {
	return slices.IndexFunc(m.waits, func(a api.Ask) bool { return a.Session == session })
}

func (m *model) ask(a api.Ask) []api.Event {
	ok := a.Session >= 0 && a.Session < m.c.Sessions && a.Fleet >= 0 && a.Fleet < m.c.Fleets && a.From >= 0 && a.From < m.c.Floors &&
		a.To >= 0 && a.To < m.c.Floors && a.From != a.To && a.Mass >= 1 && a.Mass <= m.c.Load
	switch {
	case !ok:
		return []api.Event{said(a.Session, api.Deny, 0)}
	case m.of(a.Session) >= 0 || m.waiting(a.Session) >= 0:
		return []api.Event{said(a.Session, api.Deny, 5)}
	case len(m.waits) >= m.c.Queue:
		return []api.Event{said(a.Session, api.Busy, 0)}
	}
	m.waits = append(m.waits, a)
	return []api.Event{said(a.Session, api.Queued, len(m.waits)-1)}
}

// went takes over what ride answers.
func (m *model) went(l api.Lease, msgs []api.Msg, over bool) []api.Event {
	at := m.of(l.Session)
	if over {
		m.leases = append(m.leases[:at:at], m.leases[at+1:]...)
		m.g.Give(l.Car)
	} else {
		m.leases[at] = l
		target := l.To
		if l.Phase < api.Go {
			target = l.From
		}
		m.g.Aim(l.Car, target, true)
	}
	var list []api.Event
	for _, msg := range msgs {
		list = append(list, api.Event{Session: l.Session, Msg: msg})
	}
	return list
}

func (m *model) hear(session int, msg api.Msg) []api.Event {
	at := m.of(session)
	if at < 0 {
		return []api.Event{said(session, api.Deny, 0)}
	}
	l := m.leases[at]
	return m.went(ride.Hear(m.c, l, m.g.Cars()[l.Car], m.g.Now(), msg))
}

func (m *model) gone(session int) {
	if at := m.of(session); at >= 0 {
		m.g.Give(m.leases[at].Car)
		m.leases = append(m.leases[:at:at], m.leases[at+1:]...)
	}
	if at := m.waiting(session); at >= 0 {
		m.waits = append(m.waits[:at:at], m.waits[at+1:]...)
	}
}

func (m *model) tick() ([]api.Event, []api.Wait) {
	served := m.g.Tick()
	var list []api.Event
	for _, l := range slices.Clone(m.leases) {
		list = append(list, m.went(ride.Tick(m.c, l, m.g.Cars()[l.Car], m.g.Now()))...)
	}
	return append(list, m.grant()...), served
}

func (m *model) grant() []api.Event {
	for _, w := range m.g.Waits() {
		if m.g.Now()-w.Since > m.c.Yield {
			return nil
		}
	}
	people := 0
	for _, x := range m.g.Cars() {
		if x.Mode == api.Normal && !x.Broken {
			people++
		}
	}
	if people < 2 {
		return nil
	}
	for at, a := range m.waits {
		has := 0
		for _, l := range m.leases {
			if l.Fleet == a.Fleet {
				has++
			}
		}
		if has >= m.c.Quota {
			continue
		}
		car, least := -1, math.MaxInt
		for n, x := range m.g.Cars() {
			far := int(math.Abs(float64(x.Unit - 4*a.From)))
			if carctl.Idle(x) && !x.Blocked && x.Load <= 0 && far < least {
				car, least = n, far
			}
		}
		if car < 0 {
			return nil
		}
		m.g.Take(car, a.From)
		m.waits = append(m.waits[:at:at], m.waits[at+1:]...)
		now := m.g.Now()
		trip := 4*(m.c.Floors-1) + 3*m.c.Door + 4
		m.leases = append(m.leases, api.Lease{Ask: a, Car: car, Phase: api.Fetch, Until: now + trip, Granted: now})
		return []api.Event{said(a.Session, api.Grant, car)}
	}
	return nil
}

// holds has P21.5, but for what hangs on when it is asked.
func holds(t *testing.T, c api.Config, k *core.Core, behindTick bool) {
	t.Helper()
	list := k.Leases()
	state := k.Group().Cars()
	ofSession, ofCar, ofFleet := map[int]int{}, map[int]int{}, map[int]int{}
	bound := 2*lease.Trip(c) + c.Hold*(c.Renew+2)
	for _, l := range list {
		ofSession[l.Session]++
		ofCar[l.Car]++
		ofFleet[l.Fleet]++
		x := state[l.Car]
		if ofSession[l.Session] > 1 || ofCar[l.Car] > 1 || ofFleet[l.Fleet] > max(c.Quota, 1) {
			t.Fatalf("leases %+v", list)
		}
		if (l.Phase == api.Board || l.Phase == api.Leave) && !x.Broken && x.Door.State != api.Open {
			t.Fatalf("%+v of a car that is not open: %+v", l, x)
		}
		if behindTick && k.Group().Now()-l.Granted >= bound {
			t.Fatalf("%+v is there at %d", l, k.Group().Now())
		}
	}
	broken, normal := 0, 0
	for car, x := range state {
		if (x.Mode == api.Leased) != (ofCar[car] == 1) {
			t.Fatalf("car %d %+v, leases %+v", car, x, list)
		}
		if x.Broken {
			broken++
		}
		if x.Mode == api.Normal {
			normal++
		}
	}
	if broken == 0 && normal == 0 {
		t.Fatalf("no car is people's: %+v", state)
	}
}

// upset does what people and faults do, to both groups alike.
func upset(r *rand.Rand, c api.Config, a, b *group.Group) {
	n, car, floor := r.Intn(40), r.Intn(c.Cars), r.Intn(c.Floors)
	way, kg, yes := 1+r.Intn(2), []int{0, 0, 50, 100, 103, 700}[r.Intn(6)], r.Intn(4) == 0
	for _, g := range []*group.Group{a, b} {
		switch n {
		case 0, 1, 2:
			g.Hall(floor, way)
		case 3, 4:
			g.Press(car, floor)
		case 5, 6, 7, 8:
			g.Load(car, kg)
		case 9, 10:
			g.Curtain(car, yes)
		case 11, 12, 13, 14:
			g.Fault(car, yes)
		}
	}
}

func TestDrawnAgainstModel(t *testing.T) {
	kinds := map[int]int{}
	for seed := range 150 {
		r := rand.New(rand.NewSource(int64(seed)))
		c := api.Config{Cars: 1 + r.Intn(5), Floors: 2 + r.Intn(4), Fleets: 1 + r.Intn(3), Sessions: 6, Door: 1 + r.Intn(3), Dwell: 1 + r.Intn(4),
			Hold: 1 + r.Intn(12), Renew: r.Intn(4), Yield: 1 + r.Intn(30), Queue: r.Intn(5), Quota: 1 + r.Intn(3), Load: 600, Slack: 5}
		k, m := core.New(c), &model{c: c, g: group.New(c)}
		for step := range 700 {
			var got, want []api.Event
			n := r.Intn(12)
			session := r.Intn(7)
			switch {
			case n == 0:
				a := api.Ask{Session: session, Fleet: r.Intn(c.Fleets), From: r.Intn(c.Floors), To: r.Intn(c.Floors), Mass: 100}
				got, want = k.Ask(a), m.ask(a)
			case n <= 2:
				msg := api.Msg{Kind: []int{api.Entered, api.Exited, api.Renew, api.Hello}[r.Intn(4)], A: 3}
				if list := k.Leases(); len(list) > 0 && r.Intn(4) > 0 {
					// What fits is heard more often than all else.
					l := list[r.Intn(len(list))]
					session = l.Session
					if r.Intn(2) == 0 {
						msg.Kind = map[int]int{api.Fetch: api.Renew, api.Board: api.Entered, api.Go: api.Renew, api.Leave: api.Exited}[l.Phase]
					}
				}
				got, want = k.Hear(session, msg), m.hear(session, msg)
			case n == 3 && r.Intn(12) == 0:
				k.Gone(session)
				m.gone(session)
			case n == 4:
				if list := k.Leases(); len(list) > 0 {
					l := list[r.Intn(len(list))]
					kg := 100 * r.Intn(2)
					k.Group().Load(l.Car, kg)
					m.g.Load(l.Car, kg)
				}
			case n == 5:
				upset(r, c, k.Group(), m.g)
			default:
				var served, is []api.Wait
				got, served = k.Tick()
				want, is = m.tick()
				if !slices.Equal(served, is) {
					t.Fatalf("seed %d, step %d: served %+v, want %+v", seed, step, served, is)
				}
			}
			if !slices.Equal(got, want) {
				t.Fatalf("seed %d, step %d: %+v, want %+v", seed, step, got, want)
			}
			for _, e := range got {
				kinds[e.Msg.Kind]++
			}
			if !slices.Equal(k.Leases(), m.leases) || !slices.Equal(k.Queue(), m.waits) || !slices.Equal(k.Group().Cars(), m.g.Cars()) {
				t.Fatalf("seed %d, step %d:\n%+v %+v %+v, want\n%+v %+v %+v", seed, step, k.Leases(), k.Queue(), k.Group().Cars(), m.leases, m.waits, m.g.Cars())
			}
			holds(t, c, k, n > 5)
		}
	}
	for _, kind := range []int{api.Grant, api.Queued, api.Busy, api.Deny, api.Arrived, api.RideOK, api.Reject, api.Exit, api.ExitOK, api.Evict} {
		if kinds[kind] < 20 {
			t.Errorf("the runs say %d but %d times", kind, kinds[kind])
		}
	}
}

// TestLongestLease renews as often as may be, and speaks at the last moment.
func TestLongestLease(t *testing.T) {
	for _, c := range []api.Config{setting, with(func(c *api.Config) { c.Renew, c.Hold = 0, 1 }), with(func(c *api.Config) { c.Renew = 7 })} {
		k := core.New(c)
		k.Ask(ask(3, 1, 3, 0))
		run(k, 1)
		for range 2000 {
			if len(k.Leases()) == 0 {
				return
			}
			l := k.Leases()[0]
			if ride.Left(l, k.Group().Now()) == 1 {
				k.Group().Load(l.Car, 100)
				if got := hear(k, 3, api.Renew); got[0].Msg.Kind == api.Deny && l.Phase == api.Board {
					hear(k, 3, api.Entered)
				}
			}
			run(k, 1)
			holds(t, c, k, true)
		}
		t.Error("it does not end")
	}
}
