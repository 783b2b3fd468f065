package ride_test

import (
	"math"
	"math/rand"
	"slices"
	"testing"

	"liftwell/api"
	"liftwell/ride"
)

const top = api.MaxTime

// With 6 floors and Door 2 a trip takes 30.
var setting = api.Config{Floors: 6, Door: 2, Hold: 20, Renew: 3, Slack: 5}

var phases = []int{math.MinInt, -1, 0, api.Fetch, api.Board, api.Go, api.Leave, 5, 6, math.MaxInt}

func leased(phase int) api.Lease {
	return api.Lease{Ask: api.Ask{Session: 4, Fleet: 1, From: 2, To: 5, Mass: 100}, Car: 6, Phase: phase, Until: 50, Renewed: 1, Granted: 11}
}

func openAt(floor int) api.Car {
	return api.Car{Unit: 4 * floor, Door: api.Door{State: api.Open, At: 2}, Mode: api.Leased, Load: 100}
}

type answer struct {
	l    api.Lease
	said []api.Msg
	over bool
}

func (a answer) same(b answer) bool {
	return a.l == b.l && slices.Equal(a.said, b.said) && a.over == b.over
}

func tick(c api.Config, l api.Lease, x api.Car, now int) answer {
	l, said, over := ride.Tick(c, l, x, now)
	return answer{l, said, over}
}

func hear(c api.Config, l api.Lease, x api.Car, now int, m api.Msg) answer {
	l, said, over := ride.Hear(c, l, x, now, m)
	return answer{l, said, over}
}

func says(l api.Lease, over bool, kind, a int) answer {
	return answer{l, []api.Msg{{Kind: kind, A: a}}, over}
}

func expect(t *testing.T, name string, got, want answer) {
	t.Helper()
	if !got.same(want) {
		t.Errorf("%s: %+v, want %+v", name, got, want)
	}
}

// with is a lease with another phase and another time.
func with(l api.Lease, phase, until int) api.Lease {
	l.Phase, l.Until = phase, until
	return l
}

func TestChapter(t *testing.T) {
	c := setting
	c.Renew = 0
	l := leased(api.Board)
	expect(t, "Renew with Renew 0", hear(c, l, openAt(2), 30, api.Msg{Kind: api.Renew}), says(l, false, api.Deny, 2))
}

func TestTickInEachPhase(t *testing.T) {
	for _, phase := range phases {
		l := leased(phase)
		for floor := range 6 {
			want := answer{l: l}
			if phase == api.Fetch && floor == 2 {
				want = says(with(l, api.Board, 60), false, api.Arrived, 2)
			}
			if phase == api.Go && floor == 5 {
				want = says(with(l, api.Leave, 60), false, api.Exit, 5)
			}
			expect(t, "open", tick(setting, l, openAt(floor), 40), want)
			broken := openAt(floor)
			broken.Broken = true
			expect(t, "broken", tick(setting, l, broken, 40), says(l, true, api.Evict, phase))
			expect(t, "over", tick(setting, l, openAt(floor), 50), says(l, true, api.Evict, phase))
			expect(t, "long over", tick(setting, l, openAt(floor), 51), says(l, true, api.Evict, phase))
			expect(t, "broken, and over", tick(setting, l, broken, 50), says(l, true, api.Evict, phase))
		}
	}
}

func TestTickOfACarThatIsNotOpenThere(t *testing.T) {
	for _, phase := range []int{api.Fetch, api.Go} {
		l := leased(phase)
		floor := map[int]int{api.Fetch: 2, api.Go: 5}[phase]
		for name, change := range map[string]func(x *api.Car){
			"closed":   func(x *api.Car) { x.Door = api.Door{} },
			"opening":  func(x *api.Car) { x.Door = api.Door{State: api.Opening, At: 1} },
			"closing":  func(x *api.Car) { x.Door = api.Door{State: api.Closing, At: 1} },
			"no state": func(x *api.Car) { x.Door.State = 9 },
			"above":    func(x *api.Car) { x.Unit++ },
			"below":    func(x *api.Car) { x.Unit-- },
			"far":      func(x *api.Car) { x.Unit = math.MinInt },
			"at 0":     func(x *api.Car) { x.Unit = 0 },
		} {
			x := openAt(floor)
			change(&x)
			expect(t, name, tick(setting, l, x, 40), answer{l: l})
		}
		x := openAt(floor)
		x.Blocked, x.Way, x.Mode, x.Load, x.Target, x.Stops.Up = true, api.Up, api.Normal, 9999, 1, 7
		if got := tick(setting, l, x, 40); len(got.said) != 1 || got.l.Phase == phase {
			t.Errorf("all else does not count: %+v", got)
		}
	}
}

func TestFloorsThatAreNone(t *testing.T) {
	// A unit that is no floor's is not floor 0.
	l := leased(api.Fetch)
	l.From = 0
	for _, unit := range []int{1, -1, -4, 253, 256, math.MaxInt} {
		x := openAt(0)
		x.Unit = unit
		expect(t, "no floor", tick(setting, l, x, 40), answer{l: l})
	}
	expect(t, "floor 0", tick(setting, l, openAt(0), 40), says(with(l, api.Board, 60), false, api.Arrived, 0))
	l.From = -1
	expect(t, "From -1", tick(setting, l, api.Car{Unit: -4, Door: api.Door{State: api.Open, At: 2}}, 40), answer{l: l})
}

func TestTimesOfTick(t *testing.T) {
	for _, x := range []struct {
		until, now int
		over       bool
		after      int
	}{
		{50, 49, false, 69}, {50, 50, true, 0}, {50, 51, true, 0}, {50, 0, false, 20}, {50, -1, false, 20}, {50, math.MinInt, false, 20}, {50, math.MaxInt, true, 0},
		{0, 0, true, 0}, {0, -7, true, 0}, {-7, 0, true, 0}, {-7, -9, true, 0}, {1, -9, false, 20}, {1, 0, false, 20},
		{top, top - 1, false, top}, {top, top, true, 0}, {top + 9, top - 1, false, top}, {top + 9, top, true, 0}, {math.MaxInt, top + 5, true, 0},
		{math.MaxInt, top - 20, false, top}, {math.MaxInt, top - 21, false, top - 1}, {math.MinInt, math.MinInt, true, 0},
	} {
		l := leased(api.Fetch)
		l.Until = x.until
		want := says(with(l, api.Board, x.after), false, api.Arrived, 2)
		if x.over {
			want = says(l, true, api.Evict, api.Fetch)
		}
		expect(t, "Tick", tick(setting, l, openAt(2), x.now), want)
		// Where nothing is said, Until stays as it is.
		if !x.over {
			expect(t, "Tick elsewhere", tick(setting, l, openAt(3), x.now), answer{l: l})
		}
	}
}

var holds = []struct{ given, counts int }{{math.MinInt, 1}, {-1, 1}, {0, 1}, {1, 1}, {2, 2}, {999, 999}, {1000, 1000}, {1001, 1000}, {math.MaxInt, 1000}}

func TestHold(t *testing.T) {
	for _, x := range holds {
		c := setting
		c.Hold = x.given
		expect(t, "Arrived", tick(c, leased(api.Fetch), openAt(2), 7), says(with(leased(api.Fetch), api.Board, 7+x.counts), false, api.Arrived, 2))
		expect(t, "Exit", tick(c, leased(api.Go), openAt(5), 7), says(with(leased(api.Go), api.Leave, 7+x.counts), false, api.Exit, 5))
		want := with(leased(api.Leave), api.Leave, 7+x.counts)
		want.Renewed = 2
		expect(t, "Renew", hear(c, leased(api.Leave), openAt(5), 7, api.Msg{Kind: api.Renew}), says(want, false, api.Grant, 6))
	}
}

func TestHearInEachPhase(t *testing.T) {
	kinds := []int{math.MinInt, -1, 17, 18, 1<<32 + 9, math.MaxInt}
	for kind := range 17 {
		kinds = append(kinds, kind)
	}
	for _, phase := range phases {
		for _, kind := range kinds {
			l := leased(phase)
			want := says(l, false, api.Deny, phase)
			if kind == api.Entered && phase == api.Board {
				want = says(with(l, api.Go, 70), false, api.RideOK, 0)
			}
			if kind == api.Exited && phase == api.Leave {
				want = says(l, true, api.ExitOK, 0)
			}
			if kind == api.Renew && (phase == api.Board || phase == api.Leave) {
				more := with(l, phase, 60)
				more.Renewed = 2
				want = says(more, false, api.Grant, 6)
			}
			// What else the message says, and what the car does, does not count.
			for _, x := range []api.Car{openAt(2), {Load: 100}, {Load: 100, Broken: true, Unit: -7}} {
				expect(t, "Hear", hear(setting, l, x, 40, api.Msg{Kind: kind, A: 8, B: 9, C: 7}), want)
			}
		}
	}
}

func TestHearWhenItIsLate(t *testing.T) {
	l := leased(api.Board)
	for _, now := range []int{50, 51, 9000} {
		expect(t, "Entered", hear(setting, l, openAt(2), now, api.Msg{Kind: api.Entered}), says(with(l, api.Go, now+30), false, api.RideOK, 0))
	}
}

func TestTimesOfHear(t *testing.T) {
	for _, x := range []struct{ now, trip, hold int }{
		{0, 30, 20}, {-1, 30, 20}, {math.MinInt, 30, 20}, {top - 30, top, top - 10}, {top - 31, top - 1, top - 11}, {top, top, top}, {top + 1, top, top}, {math.MaxInt, top, top},
	} {
		l := leased(api.Board)
		expect(t, "Entered", hear(setting, l, openAt(2), x.now, api.Msg{Kind: api.Entered}), says(with(l, api.Go, x.trip), false, api.RideOK, 0))
		more := with(l, api.Board, x.hold)
		more.Renewed = 2
		expect(t, "Renew", hear(setting, l, openAt(2), x.now, api.Msg{Kind: api.Renew}), says(more, false, api.Grant, 6))
	}
}

func TestTripOfTheSetting(t *testing.T) {
	for _, x := range []struct{ floors, door, trip int }{{2, 1, 11}, {0, -5, 11}, {64, 1000, 3256}, {99, 9999, 3256}, {10, 3, 49}} {
		c := setting
		c.Floors, c.Door = x.floors, x.door
		got := hear(c, leased(api.Board), openAt(2), 100, api.Msg{Kind: api.Entered})
		expect(t, "Entered", got, says(with(leased(api.Board), api.Go, 100+x.trip), false, api.RideOK, 0))
	}
}

func TestLoad(t *testing.T) {
	for _, x := range []struct {
		load, mass, slack int
		near              bool
		told              int
	}{
		{100, 100, 0, true, 0}, {105, 100, 5, true, 0}, {95, 100, 5, true, 0}, {106, 100, 5, false, 106}, {94, 100, 5, false, 94}, {56, 100, 5, false, 56},
		{101, 100, 0, false, 101}, {101, 100, -3, false, 101}, {0, 100, 5, false, 0}, {-70, 100, 5, false, 0}, {math.MinInt, 100, 99, false, 0}, {math.MinInt, 100, 100, true, 0},
		{20000, 100, 5, false, 10000}, {math.MaxInt, 100, 5, false, 10000}, {math.MaxInt, 9995, 5, true, 0}, {math.MaxInt, 1, math.MaxInt, true, 0},
	} {
		c := setting
		c.Slack = x.slack
		l := leased(api.Board)
		l.Mass = x.mass
		car := openAt(2)
		car.Load = x.load
		want := says(with(l, api.Go, 70), false, api.RideOK, 0)
		if !x.near {
			want = says(l, false, api.Reject, x.told)
		}
		expect(t, "Entered", hear(c, l, car, 40, api.Msg{Kind: api.Entered}), want)
	}
}

func TestRenew(t *testing.T) {
	for _, x := range []struct {
		renew, renewed int
		may            bool
	}{
		{3, 0, true}, {3, 1, true}, {3, 2, true}, {3, 3, false}, {3, 4, false}, {3, math.MaxInt, false}, {3, -1, true},
		{0, 0, false}, {0, -1, true}, {-4, 0, false}, {-4, -1, true}, {math.MinInt, -1, true}, {1, 0, true}, {1, 1, false},
		{1000, 999, true}, {1000, 1000, false}, {1001, 999, true}, {1001, 1000, false}, {math.MaxInt, 999, true}, {math.MaxInt, 1000, false},
	} {
		c := setting
		c.Renew = x.renew
		for _, phase := range []int{api.Board, api.Leave} {
			l := leased(phase)
			l.Renewed = x.renewed
			want := says(l, false, api.Deny, phase)
			if x.may {
				more := with(l, phase, 60)
				more.Renewed++
				want = says(more, false, api.Grant, 6)
			}
			expect(t, "Renew", hear(c, l, openAt(2), 40, api.Msg{Kind: api.Renew}), want)
		}
	}
}

func TestAim(t *testing.T) {
	for _, phase := range phases {
		want := 5
		if phase <= 2 {
			want = 2
		}
		if floor, hold := ride.Aim(leased(phase)); floor != want || !hold {
			t.Errorf("Aim in %d: %d %t", phase, floor, hold)
		}
	}
	if floor, hold := ride.Aim(api.Lease{Ask: api.Ask{From: -7, To: math.MaxInt}, Phase: 4}); floor != math.MaxInt || !hold {
		t.Errorf("Aim: %d %t", floor, hold)
	}
}

func TestLeft(t *testing.T) {
	for _, x := range []struct{ until, now, want int }{
		{50, 40, 10}, {50, 49, 1}, {50, 50, 0}, {50, 51, 0}, {50, 0, 50}, {50, -3, 50}, {50, math.MinInt, 50}, {50, math.MaxInt, 0},
		{0, 0, 0}, {-5, 0, 0}, {-5, -9, 0}, {math.MinInt, math.MinInt, 0}, {math.MinInt, math.MaxInt, 0},
		{math.MaxInt, 0, top}, {math.MaxInt, math.MinInt, top}, {top + 1, top - 1, 1}, {top + 9, top + 1, 0}, {math.MaxInt, top, 0},
	} {
		for _, phase := range phases {
			l := leased(phase)
			l.Until = x.until
			if got := ride.Left(l, x.now); got != x.want {
				t.Errorf("Left of %d at %d: %d, want %d", x.until, x.now, got, x.want)
			}
		}
	}
}

func TestMemory(t *testing.T) {
	x := openAt(2)
	x.Broken = true
	_, first, _ := ride.Tick(setting, leased(api.Go), x, 40)
	_, heard, _ := ride.Hear(setting, leased(api.Go), x, 40, api.Msg{})
	first[0], heard[0] = api.Msg{}, api.Msg{}
	expect(t, "Tick", tick(setting, leased(api.Go), x, 40), says(leased(api.Go), true, api.Evict, api.Go))
	expect(t, "Hear", hear(setting, leased(api.Go), x, 40, api.Msg{}), says(leased(api.Go), false, api.Deny, api.Go))
}

func TestDrawnTicks(t *testing.T) {
	r := rand.New(rand.NewSource(20))
	for range 20000 {
		c := api.Config{Floors: 6, Door: 2, Hold: 1 + r.Intn(30)}
		l := leased(1 + r.Intn(4))
		l.From, l.To, l.Until = r.Intn(3), r.Intn(3), r.Intn(20)
		x := api.Car{Unit: r.Intn(12), Door: api.Door{State: r.Intn(4)}, Broken: r.Intn(6) == 0}
		now := r.Intn(20)
		want := answer{l: l}
		switch {
		case x.Broken, now >= l.Until:
			want = says(l, true, api.Evict, l.Phase)
		case l.Phase == 1 && x.Door.State == api.Open && x.Unit == 4*l.From:
			want = says(with(l, 2, now+c.Hold), false, api.Arrived, l.From)
		case l.Phase == 3 && x.Door.State == api.Open && x.Unit == 4*l.To:
			want = says(with(l, 4, now+c.Hold), false, api.Exit, l.To)
		}
		if got := tick(c, l, x, now); !got.same(want) {
			t.Fatalf("Tick(%+v, %+v, %d): %+v, want %+v", l, x, now, got, want)
		}
	}
}
