package bound_test

import (
	"math"
	"math/rand"
	"testing"

	"liftwell/api"
	"liftwell/bound"
	"liftwell/frame"
	"liftwell/gateway"
	"liftwell/link"
	"liftwell/msg"
)

func TestChapter(t *testing.T) {
	if got := bound.Trips(api.Config{Floors: 2, Door: 1}); got != 22 {
		t.Errorf("Trips %d", got)
	}
}

// A span is a number as it is given, and as it counts.
type span struct{ given, counts int }

var (
	spans  = []span{{math.MinInt, 1}, {-1, 1}, {0, 1}, {1, 1}, {2, 2}, {7, 7}, {999, 999}, {1000, 1000}, {1001, 1000}, {1 << 32, 1000}, {math.MaxInt, 1000}}
	renews = []span{{math.MinInt, 0}, {-1, 0}, {0, 0}, {1, 1}, {2, 2}, {999, 999}, {1000, 1000}, {1001, 1000}, {1 << 32, 1000}, {math.MaxInt, 1000}}
	floors = []span{{math.MinInt, 2}, {-1, 2}, {0, 2}, {1, 2}, {2, 2}, {3, 3}, {10, 10}, {63, 63}, {64, 64}, {65, 64}, {1 << 32, 64}, {math.MaxInt, 64}}
)

func TestKnown(t *testing.T) {
	c := api.Config{Floors: 10, Door: 3, Dwell: 5, Hold: 20, Renew: 2}
	for name, x := range map[string][2]int{
		"Trips": {bound.Trips(c), 98}, "Lease": {bound.Lease(c), 178}, "Serve": {bound.Serve(c), 930}, "Ride": {bound.Ride(c), 122},
		"Trips of nothing": {bound.Trips(api.Config{}), 22}, "Lease of nothing": {bound.Lease(api.Config{}), 24},
		"Serve of nothing": {bound.Serve(api.Config{}), 90}, "Ride of nothing": {bound.Ride(api.Config{}), 46},
	} {
		if x[0] != x[1] {
			t.Errorf("%s: %d, want %d", name, x[0], x[1])
		}
	}
}

func TestFormulas(t *testing.T) {
	for _, n := range floors {
		for _, door := range spans {
			c := api.Config{Floors: n.given, Door: door.given, Hold: 1, Dwell: 1}
			trip := 4*(n.counts-1) + 3*door.counts + 4
			if got := bound.Trips(c); got != 2*trip {
				t.Errorf("Trips(%+v) = %d, want %d", c, got, 2*trip)
			}
			if got := bound.Ride(c); got != 2*trip+24 {
				t.Errorf("Ride(%+v) = %d, want %d", c, got, 2*trip+24)
			}
			for _, dwell := range spans {
				c.Dwell = dwell.given
				want := 5 * (4*(n.counts-1) + n.counts*(2*door.counts+dwell.counts+4))
				if got := bound.Serve(c); got != want {
					t.Errorf("Serve(%+v) = %d, want %d", c, got, want)
				}
			}
			for _, hold := range spans {
				for _, renew := range renews {
					c.Hold, c.Renew = hold.given, renew.given
					want := 2*trip + hold.counts*2 + hold.counts*renew.counts
					if got := bound.Lease(c); got != want {
						t.Errorf("Lease(%+v) = %d, want %d", c, got, want)
					}
				}
			}
		}
	}
}

func TestOthersDoNotCount(t *testing.T) {
	c := api.Config{Floors: 10, Door: 3, Dwell: 5, Hold: 20, Renew: 2}
	more := c
	more.Cars, more.Fleets, more.Sessions, more.Yield, more.Queue, more.Quota, more.Load, more.Slack = 5, 5, 5, 5, 5, 5, 5, 5
	more.Retry, more.Cap, more.Tries, more.Dead, more.Window = 5, 5, 5, 5, 5
	if bound.Trips(c) != bound.Trips(more) || bound.Lease(c) != bound.Lease(more) || bound.Serve(c) != bound.Serve(more) || bound.Ride(c) != bound.Ride(more) {
		t.Error("something else counts")
	}
}

// A robot speaks by a link of its own. How it does its part is chosen for each.
type robot struct {
	c                  api.Config
	session            int
	from, to           int
	l                  *link.Link
	epoch              int
	heard              []int
	loses, lies, quiet int // of ten packets, of ten words, of ten turns
}

func framed(p api.Packet) []byte {
	payload, _ := msg.Put(p)
	data, _ := frame.Put(payload)
	return data
}

func (r *robot) request() {
	r.l.Send(api.Msg{Kind: api.Request, A: r.from, B: r.to, C: 100})
}

func (r *robot) hear(data []byte, now int) {
	s := new(frame.Stream)
	s.Feed(data)
	payload, _ := s.Next()
	p, err := msg.Get(payload)
	if err != api.OK {
		return
	}
	if p.Has && p.Msg.Kind == api.Welcome && p.Epoch != r.epoch {
		r.epoch = p.Epoch
		r.l = link.New(r.c, r.session, r.epoch, now)
		r.request()
	}
	if r.l == nil {
		return
	}
	m, ok := r.l.Recv(p, now)
	if !ok {
		return
	}
	r.heard = append(r.heard, m.Kind)
	switch m.Kind {
	case api.Arrived:
		r.l.Send(api.Msg{Kind: api.Entered})
	case api.Exit:
		r.l.Send(api.Msg{Kind: api.Exited})
	}
}

func (r *robot) speak(now int) []byte {
	if r.l == nil {
		return framed(api.Packet{Session: r.session, Has: true, Msg: api.Msg{Kind: api.Hello, A: 5, B: r.session % 3}})
	}
	if p, ok := r.l.Poll(now); ok {
		return framed(p)
	}
	return nil
}

func step(t *testing.T, g *gateway.Gateway, s api.Step) []api.Out {
	t.Helper()
	outs, err := g.Do(s)
	if err != api.OK && err != api.ErrState {
		t.Fatalf("step %+v: %d", s, err)
	}
	return outs
}

// weigh makes a robot that boards, or rides, the load of its car, and what left it no load.
func weigh(t *testing.T, g *gateway.Gateway) {
	t.Helper()
	for _, l := range g.Core().Leases() {
		kg := 0
		if l.Phase == api.Board || l.Phase == api.Go {
			kg = l.Mass
		}
		if g.Core().Group().Cars()[l.Car].Load != kg {
			step(t, g, api.Step{Kind: api.StepLoad, A: l.Car, B: kg})
		}
	}
}

// TestRide has P23.3, for robots that answer at once, and for those that take a tick for it.
func TestRide(t *testing.T) {
	for seed := range 300 {
		r := rand.New(rand.NewSource(int64(seed)))
		c := api.Config{Cars: 2 + r.Intn(4), Floors: 2 + r.Intn(12), Fleets: 3, Sessions: 1 + r.Intn(64), Door: 1 + r.Intn(9), Dwell: 1 + r.Intn(9),
			Hold: 20 + r.Intn(20), Renew: r.Intn(3), Yield: 1 + r.Intn(9), Queue: 1 + r.Intn(3), Quota: 1 + r.Intn(3), Load: 600, Slack: r.Intn(5),
			Retry: 20 + r.Intn(20), Cap: 20 + r.Intn(100), Tries: 4 + r.Intn(3), Window: 4 + r.Intn(3)}
		c.Dead = bound.Ride(c) + r.Intn(3)
		g := gateway.New(c)
		bot := &robot{c: c, session: r.Intn(c.Sessions), from: r.Intn(c.Floors)}
		bot.to = (bot.from + 1 + r.Intn(c.Floors-1)) % c.Floors
		if seed%3 == 0 {
			// The farthest that may be: from the topmost floor to the lowest.
			bot.from, bot.to = c.Floors-1, 0
		}
		// The time ahead of its hello does not count, and cars may have been elsewhere.
		for car := range c.Cars {
			step(t, g, api.Step{Kind: api.StepPress, A: car, B: r.Intn(c.Floors)})
		}
		for range 6 * (c.Floors + c.Door + c.Dwell) {
			step(t, g, api.Step{Kind: api.StepTick})
		}
		start := g.Core().Group().Now()
		var waiting []api.Out
		for len(bot.heard) == 0 || bot.heard[len(bot.heard)-1] != api.ExitOK {
			now := g.Core().Group().Now()
			if now-start >= bound.Ride(c) {
				t.Fatalf("seed %d, %+v: behind %d ticks it heard %v", seed, c, now-start, bot.heard)
			}
			if data := bot.speak(now); data != nil {
				step(t, g, api.Step{Kind: api.StepBytes, Data: data})
			}
			late := waiting
			waiting = step(t, g, api.Step{Kind: api.StepTick})
			if seed%2 == 0 {
				late, waiting = append(late, waiting...), nil
			}
			for _, out := range late {
				bot.hear(out.Data, g.Core().Group().Now())
			}
			weigh(t, g)
		}
	}
}

// people calls and presses, where nothing is wrong.
func people(t *testing.T, r *rand.Rand, g *gateway.Gateway, c api.Config, often int) {
	t.Helper()
	if r.Intn(often) == 0 {
		g.Do(api.Step{Kind: api.StepHall, A: r.Intn(c.Floors), B: 1 + r.Intn(2)})
	}
	if r.Intn(often) == 0 {
		step(t, g, api.Step{Kind: api.StepPress, A: r.Intn(c.Cars), B: r.Intn(c.Floors)})
	}
	if r.Intn(8) == 0 {
		car := r.Intn(c.Cars)
		if g.Core().Group().Cars()[car].Mode == api.Normal {
			step(t, g, api.Step{Kind: api.StepLoad, A: car, B: []int{0, 0, 75, 600}[r.Intn(4)]})
		}
	}
}

// TestLeaseAndServe has P23.2, with robots that do their part, that lie, and that are silent.
func TestLeaseAndServe(t *testing.T) {
	longest, oldest, granted := 0.0, 0.0, 0
	for seed := range 80 {
		r := rand.New(rand.NewSource(int64(seed)))
		c := api.Config{Cars: 1 + r.Intn(4), Floors: 2 + r.Intn(7), Fleets: 3, Sessions: 6, Door: 1 + r.Intn(3), Dwell: 1 + r.Intn(5),
			Hold: 1 + r.Intn(30), Renew: r.Intn(4), Yield: 1 + r.Intn(40), Queue: 1 + r.Intn(6), Quota: 1 + r.Intn(3), Load: 600, Slack: 5,
			Retry: 2 + r.Intn(5), Cap: 20, Tries: 6, Dead: 30 + r.Intn(300), Window: 4}
		g := gateway.New(c)
		var robots []*robot
		for n := range 6 {
			robots = append(robots, &robot{c: c, session: n, loses: r.Intn(4) * r.Intn(2), lies: r.Intn(3), quiet: r.Intn(8)})
		}
		often := 2 + r.Intn(40)
		faults := seed%4 == 3
		for range 1500 {
			people(t, r, g, c, often)
			if faults && r.Intn(60) == 0 {
				step(t, g, api.Step{Kind: api.StepCurtain + r.Intn(2), A: r.Intn(c.Cars), B: r.Intn(2)})
			}
			for _, out := range step(t, g, api.Step{Kind: api.StepTick}) {
				if bot := robots[out.Session]; r.Intn(10) >= bot.loses {
					bot.hear(out.Data, g.Core().Group().Now())
				}
			}
			now := g.Core().Group().Now()
			for _, l := range g.Core().Leases() {
				oldest = max(oldest, float64(now-l.Granted)/float64(bound.Lease(c)))
				if now-l.Granted >= bound.Lease(c) {
					t.Fatalf("seed %d, %+v: %+v at %d", seed, c, l, now)
				}
				if now == l.Granted {
					granted++
				}
			}
			for _, w := range g.Core().Group().Waits() {
				if faults {
					break
				}
				longest = max(longest, float64(now-w.Since)/float64(bound.Serve(c)))
				if now-w.Since > bound.Serve(c) {
					t.Fatalf("seed %d, %+v: %+v waits at %d", seed, c, w, now)
				}
			}
			weigh(t, g)
			for _, bot := range robots {
				if bot.l != nil && r.Intn(100) < bot.lies {
					bot.l.Send(api.Msg{Kind: []int{api.Renew, api.Renew, api.Entered, api.Exited}[r.Intn(4)]})
				}
				if bot.l != nil && r.Intn(20) == 0 {
					bot.from, bot.to = r.Intn(c.Floors), r.Intn(c.Floors)
					bot.request()
				}
				if bot.l != nil && bot.l.Dead(now) {
					bot.l = nil
				}
				if r.Intn(10) < bot.quiet {
					continue
				}
				if data := bot.speak(now); data != nil && r.Intn(10) >= bot.loses {
					step(t, g, api.Step{Kind: api.StepBytes, Data: data})
				}
			}
		}
	}
	if granted < 1000 || longest < 0.1 || oldest < 0.5 {
		t.Errorf("the runs tell little: %d leases, of the bounds %.2f and %.2f", granted, longest, oldest)
	}
}

// TestLongestLease has a robot that renews as often as it may, and speaks at the last moment.
func TestLongestLease(t *testing.T) {
	for _, renew := range []int{-3, 0, 1, 5} {
		c := api.Config{Cars: 2, Floors: 5, Fleets: 1, Sessions: 1, Door: 2, Dwell: 3, Hold: 12, Renew: renew, Yield: 9, Queue: 1, Quota: 1,
			Load: 600, Slack: 5, Retry: 1, Cap: 1, Tries: 100000, Dead: 100000, Window: 16}
		g := gateway.New(c)
		bot := &robot{c: c, from: 4}
		longest := 0
		for range 4000 {
			now := g.Core().Group().Now()
			if data := bot.speak(now); data != nil {
				step(t, g, api.Step{Kind: api.StepBytes, Data: data})
			}
			for _, out := range step(t, g, api.Step{Kind: api.StepTick}) {
				s := new(frame.Stream)
				s.Feed(out.Data)
				payload, _ := s.Next()
				p, _ := msg.Get(payload)
				if bot.l == nil {
					bot.hear(out.Data, now)
				} else if m, ok := bot.l.Recv(p, now); ok && m.Kind == api.ExitOK {
					t.Fatal("it never exits")
				}
			}
			weigh(t, g)
			list := g.Core().Leases()
			if len(list) == 0 {
				if longest > 0 {
					break
				}
				continue
			}
			l := list[0]
			longest = g.Core().Group().Now() - l.Granted
			if longest >= bound.Lease(c) {
				t.Fatalf("Renew %d: %+v at %d", renew, l, g.Core().Group().Now())
			}
			if l.Until-g.Core().Group().Now() == 1 {
				kind := api.Renew
				if l.Renewed >= renew && l.Phase == api.Board {
					kind = api.Entered
				}
				bot.l.Send(api.Msg{Kind: kind})
			}
		}
		if longest < bound.Lease(c)/2 {
			t.Errorf("Renew %d: the longest lease is %d, the bound %d", renew, longest, bound.Lease(c))
		}
	}
}
