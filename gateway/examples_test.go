package gateway_test

import (
	"slices"
	"testing"

	"liftwell/api"
	"liftwell/gateway"
)

// These are the document's ten examples of the whole.

func newRobot(c api.Config, session, from, to int) *robot {
	return &robot{c: c, session: session, number: 70 + session, fleet: 1, from: from, to: to, mass: 100}
}

func expectHeard(t *testing.T, r *robot, want ...int) {
	t.Helper()
	if got := r.kinds(); !slices.Equal(got, want) {
		t.Errorf("robot %d heard %+v, want %v", r.session, r.heard, want)
	}
}

func TestExample1Ride(t *testing.T) {
	g, r := gateway.New(setting), newRobot(setting, 2, 1, 3)
	for range 100 {
		turn(t, g, r)
	}
	expectHeard(t, r, api.Welcome, api.Queued, api.Grant, api.Arrived, api.RideOK, api.Exit, api.ExitOK)
	if !slices.Equal(r.heard[1:], []api.Msg{{Kind: api.Queued}, {Kind: api.Grant}, {Kind: api.Arrived, A: 1}, {Kind: api.RideOK}, {Kind: api.Exit, A: 3}, {Kind: api.ExitOK}}) {
		t.Errorf("heard %+v", r.heard)
	}
}

func TestExample2Evict(t *testing.T) {
	g, r := gateway.New(setting), newRobot(setting, 2, 1, 3)
	r.silent = true
	board := 0
	for range 130 {
		turn(t, g, r)
		for _, l := range g.Core().Leases() {
			if l.Phase == api.Board {
				board++
				if g.Views()[l.Car].Door != api.Open {
					t.Errorf("the car is not held: %+v", g.Views())
				}
			}
		}
	}
	expectHeard(t, r, api.Welcome, api.Queued, api.Grant, api.Arrived, api.Evict)
	if last := r.heard[4]; last.A != api.Board || board != 30 {
		t.Errorf("%+v, held for %d", last, board)
	}
}

func TestExample3Reject(t *testing.T) {
	g, r := gateway.New(setting), newRobot(setting, 2, 1, 3)
	for range 130 {
		for car, x := range g.Core().Group().Cars() {
			if x.Load == 0 && x.Mode == api.Leased && x.Door.State == api.Opening {
				do(t, g, api.StepLoad, car, 56)
			}
		}
		turn(t, g, r)
	}
	expectHeard(t, r, api.Welcome, api.Queued, api.Grant, api.Arrived, api.Reject, api.Evict)
	if r.heard[4].A != 56 {
		t.Errorf("heard %+v", r.heard)
	}
}

func TestExample4OlderEpoch(t *testing.T) {
	g := gateway.New(setting)
	come(t, g, framed(hello(2, 70, 1), hello(2, 71, 1)))
	come(t, g, framed(says(2, 1, 0, 0, api.Msg{Kind: api.Request, A: 1, B: 3, C: 100})))
	if g.Epoch(2) != 2 || len(g.Core().Queue()) != 0 {
		t.Errorf("epoch %d, queue %+v", g.Epoch(2), g.Core().Queue())
	}
	expectPackets(t, "Welcome alone", tick(t, g), says(2, 2, 0, 0, api.Msg{Kind: api.Welcome, A: 2}))
	expectPackets(t, "nothing", tick(t, g))
}

func TestExample5Twice(t *testing.T) {
	g := gateway.New(setting)
	come(t, g, framed(hello(2, 70, 1)))
	tick(t, g)
	request := says(2, 1, 0, 1, api.Msg{Kind: api.Request, A: 1, B: 3, C: 100})
	come(t, g, framed(request))
	if len(g.Core().Queue()) != 1 {
		t.Fatalf("queue %+v", g.Core().Queue())
	}
	expectPackets(t, "Queued", tick(t, g), says(2, 1, 1, 1, api.Msg{Kind: api.Queued}))
	expectPackets(t, "no answer is due", tick(t, g))
	come(t, g, framed(request))
	expectPackets(t, "an answer once more", tick(t, g), api.Packet{Session: 2, Epoch: 1, Seq: 1, Ack: 1})
	if len(g.Core().Leases()) != 1 || len(g.Core().Queue()) != 0 {
		t.Errorf("%+v %+v", g.Core().Leases(), g.Core().Queue())
	}
}

func TestExample6OldHallCall(t *testing.T) {
	c := with(func(c *api.Config) { c.Dead, c.Tries = 1000, 1000 })
	g, r := gateway.New(c), newRobot(c, 2, 1, 3)
	// Both cars stand with somebody in their doors; the call waits.
	for car := range 2 {
		do(t, g, api.StepPress, car, 0)
		do(t, g, api.StepCurtain, car, 1)
	}
	ticks(t, g, 5)
	do(t, g, api.StepHall, 2, api.Up)
	ticks(t, g, 1)
	other := 1 - g.Core().Group().Waits()[0].Car
	do(t, g, api.StepCurtain, other, 0)
	ticks(t, g, 15)
	for range 40 {
		turn(t, g, r)
	}
	expectHeard(t, r, api.Welcome, api.Queued)
	do(t, g, api.StepCurtain, 1-other, 0)
	for len(g.Core().Leases()) == 0 {
		turn(t, g, r)
		if len(g.Core().Group().Waits()) > 0 && len(g.Core().Leases()) > 0 {
			t.Error("granted, while the call waits")
		}
	}
	turn(t, g, r)
	expectHeard(t, r, api.Welcome, api.Queued, api.Grant)
}

func TestExample7TwoCars(t *testing.T) {
	g := gateway.New(setting)
	a, b := newRobot(setting, 2, 1, 3), newRobot(setting, 5, 1, 3)
	both := 0
	for range 130 {
		turn(t, g, a, b)
		normal := 0
		for _, v := range g.Views() {
			if v.Mode == api.Normal {
				normal++
			}
		}
		if normal == 0 {
			t.Fatalf("no car is people's: %+v", g.Views())
		}
		if len(g.Core().Leases()) == 1 && len(g.Core().Queue()) == 1 {
			both++
		}
	}
	if both < 10 {
		t.Errorf("the second request waits for %d ticks", both)
	}
	for _, r := range []*robot{a, b} {
		expectHeard(t, r, api.Welcome, api.Queued, api.Grant, api.Arrived, api.RideOK, api.Exit, api.ExitOK)
	}
}

func TestExample8Fault(t *testing.T) {
	c := with(func(c *api.Config) { c.Cars = 3 })
	g, r := gateway.New(c), newRobot(c, 2, 3, 0)
	for range 5 {
		turn(t, g, r)
	}
	leased := g.Core().Leases()[0].Car
	do(t, g, api.StepHall, 3, api.Down)
	turn(t, g, r)
	first := g.Core().Group().Waits()[0].Car
	do(t, g, api.StepFault, leased, 1)
	do(t, g, api.StepFault, first, 1)
	turn(t, g, r)
	turn(t, g, r)
	expectHeard(t, r, api.Welcome, api.Queued, api.Grant, api.Evict)
	if w := g.Core().Group().Waits(); len(w) != 1 || w[0].Car == first || w[0].Car == leased || w[0].Car < 0 {
		t.Errorf("waits %+v", w)
	}
	if v := g.Views(); v[leased].Mode != api.Broken || v[first].Mode != api.Broken {
		t.Errorf("views %+v", v)
	}
	for range 40 {
		turn(t, g, r)
	}
	if w := g.Core().Group().Waits(); len(w) != 0 {
		t.Errorf("waits %+v", w)
	}
}

func TestExample9SomebodyInTheDoor(t *testing.T) {
	g := gateway.New(setting)
	do(t, g, api.StepPress, 0, 0)
	ticks(t, g, 3)
	do(t, g, api.StepCurtain, 0, 1)
	do(t, g, api.StepPress, 0, 3)
	for range 100 {
		tick(t, g)
		if v := g.Views()[0]; v.Door != api.Open || v.Unit != 0 {
			t.Fatalf("%+v", v)
		}
	}
	do(t, g, api.StepCurtain, 0, 0)
	ticks(t, g, 20)
	if v := g.Views()[0]; v.Unit != 12 {
		t.Errorf("%+v", v)
	}
}

func TestExample10NumbersBesideEachOther(t *testing.T) {
	g := gateway.New(with(func(c *api.Config) { c.Dead = 1 << 30 }))
	come(t, g, framed(hello(2, 70, 1)))
	tick(t, g)
	word := api.Msg{Kind: api.Hello}
	for n := range 65536 {
		come(t, g, framed(says(2, 1, n, 1, word)))
	}
	expectPackets(t, "an answer to 65535", tick(t, g), api.Packet{Session: 2, Epoch: 1, Seq: 1, Ack: 0})
	come(t, g, framed(says(2, 1, 65535, 1, word)))
	expectPackets(t, "65535 came", tick(t, g), api.Packet{Session: 2, Epoch: 1, Seq: 1, Ack: 0})
	come(t, g, framed(says(2, 1, 0, 1, word)))
	expectPackets(t, "0 comes behind it", tick(t, g), api.Packet{Session: 2, Epoch: 1, Seq: 1, Ack: 1})
}
