package lease_test

import (
	"math"
	"math/rand"
	"slices"
	"testing"

	"liftwell/api"
	"liftwell/lease"
)

var setting = api.Config{Sessions: 10, Fleets: 4, Floors: 6, Load: 600, Quota: 2}

func made(session, fleet, car int) api.Lease {
	return api.Lease{Ask: api.Ask{Session: session, Fleet: fleet, From: 1, To: 2, Mass: 50}, Car: car, Phase: api.Fetch, Until: 40, Renewed: 1, Granted: 9}
}

func expect(t *testing.T, name string, got, want api.Errno) {
	t.Helper()
	if got != want {
		t.Errorf("%s: %d, want %d", name, got, want)
	}
}

func expectList(t *testing.T, table *lease.Table, want ...api.Lease) {
	t.Helper()
	if got := table.List(); !slices.Equal(got, want) {
		t.Errorf("List %+v, want %+v", got, want)
	}
}

func expectLease(t *testing.T, name string, got api.Lease, is bool, want api.Lease, there bool) {
	t.Helper()
	if got != want || is != there {
		t.Errorf("%s: %+v %t, want %+v %t", name, got, is, want, there)
	}
}

func TestChapter(t *testing.T) {
	table := lease.New(setting)
	expect(t, "Put", table.Put(made(3, 1, 0)), api.OK)
	expect(t, "Put again", table.Put(made(3, 1, 0)), api.ErrState)
	expect(t, "Put again of another car", table.Put(made(3, 1, 1)), api.ErrState)
}

func TestNilTable(t *testing.T) {
	var table *lease.Table
	expect(t, "Put", table.Put(made(3, 1, 0)), api.ErrArg)
	expect(t, "Set", table.Set(made(3, 1, 0)), api.ErrArg)
	l, is := table.End(0)
	expectLease(t, "End", l, is, api.Lease{}, false)
	l, is = table.Of(0)
	expectLease(t, "Of", l, is, api.Lease{}, false)
	l, is = table.Car(0)
	expectLease(t, "Car", l, is, api.Lease{}, false)
	expectList(t, table)
}

func TestSpan(t *testing.T) {
	for _, x := range []struct{ n, want int }{
		{math.MinInt, 1}, {-1, 1}, {0, 1}, {1, 1}, {2, 2}, {500, 500}, {999, 999}, {1000, 1000}, {1001, 1000}, {1 << 32, 1000}, {math.MaxInt, 1000},
	} {
		if got := lease.Span(x.n); got != x.want {
			t.Errorf("Span(%d) = %d, want %d", x.n, got, x.want)
		}
	}
}

func TestTrip(t *testing.T) {
	for _, x := range []struct{ floors, door, want int }{
		{2, 1, 11}, {3, 1, 15}, {2, 2, 14}, {10, 3, 49}, {64, 1000, 3256}, {65, 1001, 3256}, {1, 0, 11}, {0, -1, 11}, {63, 999, 3249},
		{math.MinInt, math.MinInt, 11}, {math.MaxInt, math.MaxInt, 3256},
	} {
		c := api.Config{Floors: x.floors, Door: x.door, Dwell: 77, Hold: 88, Cars: 99}
		if got := lease.Trip(c); got != x.want {
			t.Errorf("Trip of %d floors, Door %d: %d, want %d", x.floors, x.door, got, x.want)
		}
	}
}

// bad are changes that make a good lease none.
func bad() map[string]func(l *api.Lease) {
	set := func(of func(l *api.Lease) *int, n int) func(l *api.Lease) {
		return func(l *api.Lease) { *of(l) = n }
	}
	session := func(l *api.Lease) *int { return &l.Session }
	car := func(l *api.Lease) *int { return &l.Car }
	phase := func(l *api.Lease) *int { return &l.Phase }
	return map[string]func(l *api.Lease){
		"session -1": set(session, -1), "session 10": set(session, 10),
		"fleet -1": func(l *api.Lease) { l.Fleet = -1 }, "fleet 4": func(l *api.Lease) { l.Fleet = 4 },
		"from 6": func(l *api.Lease) { l.From = 6 }, "to -1": func(l *api.Lease) { l.To = -1 }, "to from": func(l *api.Lease) { l.To = l.From },
		"mass 0": func(l *api.Lease) { l.Mass = 0 }, "mass 601": func(l *api.Lease) { l.Mass = 601 },
		"car -1": set(car, -1), "car 8": set(car, 8), "car, very low": set(car, math.MinInt), "car, very high": set(car, math.MaxInt),
		"phase 0": set(phase, 0), "phase 5": set(phase, 5), "phase -1": set(phase, -1), "phase, very high": set(phase, math.MaxInt), "phase, very low": set(phase, math.MinInt),
	}
}

func TestNotGood(t *testing.T) {
	table := lease.New(setting)
	table.Put(made(3, 1, 0))
	for name, change := range bad() {
		for _, from := range []api.Lease{made(3, 1, 0), made(4, 1, 1), made(4, 2, 0)} {
			l := from
			change(&l)
			expect(t, "Put with "+name, table.Put(l), api.ErrArg)
			expect(t, "Set with "+name, table.Set(l), api.ErrArg)
		}
		expectList(t, table, made(3, 1, 0))
	}
}

func TestGoodAtTheEnds(t *testing.T) {
	for _, l := range []api.Lease{
		{Ask: api.Ask{Session: 0, Fleet: 0, From: 0, To: 5, Mass: 1}, Car: 0, Phase: 1},
		{Ask: api.Ask{Session: 9, Fleet: 3, From: 5, To: 0, Mass: 600}, Car: 7, Phase: 4},
		{Ask: api.Ask{Session: 9, Fleet: 3, From: 5, To: 0, Mass: 600}, Car: 7, Phase: 2, Until: math.MinInt, Renewed: -7, Granted: math.MaxInt},
		{Ask: api.Ask{Session: 1, Fleet: 1, From: 1, To: 0, Mass: 600}, Car: 6, Phase: 3, Until: math.MaxInt, Renewed: math.MaxInt, Granted: -1},
	} {
		// How many cars there are does not count here.
		c := setting
		c.Cars = 1
		table := lease.New(c)
		expect(t, "Put", table.Put(l), api.OK)
		expectList(t, table, l)
		expect(t, "Set", table.Set(l), api.OK)
		expectList(t, table, l)
	}
}

func TestPut(t *testing.T) {
	table := lease.New(setting)
	expect(t, "Put", table.Put(made(3, 1, 0)), api.OK)
	expect(t, "its session", table.Put(made(3, 2, 5)), api.ErrState)
	expect(t, "its car", table.Put(made(4, 2, 0)), api.ErrState)
	expect(t, "another one", table.Put(made(4, 1, 5)), api.OK)
	expect(t, "a fleet that is full", table.Put(made(5, 1, 6)), api.ErrFull)
	expect(t, "its session, and a fleet that is full", table.Put(made(3, 1, 6)), api.ErrState)
	expect(t, "a car, and a fleet that is full", table.Put(made(6, 1, 5)), api.ErrState)
	expect(t, "session and car of two leases", table.Put(made(3, 0, 5)), api.ErrState)
	expect(t, "another fleet", table.Put(made(5, 0, 6)), api.OK)
	expectList(t, table, made(3, 1, 0), made(4, 1, 5), made(5, 0, 6))
	table.End(4)
	expect(t, "with room again", table.Put(made(0, 1, 5)), api.OK)
	expectList(t, table, made(3, 1, 0), made(5, 0, 6), made(0, 1, 5))
}

func TestQuota(t *testing.T) {
	for _, x := range []struct{ quota, counts int }{{math.MinInt, 1}, {0, 1}, {1, 1}, {2, 2}, {7, 7}, {8, 8}, {9, 8}, {math.MaxInt, 8}} {
		c := setting
		c.Quota = x.quota
		table := lease.New(c)
		for n := range 8 {
			want := api.OK
			if n >= x.counts {
				want = api.ErrFull
			}
			expect(t, "Put", table.Put(made(n, 1, n)), want)
		}
		if len(table.List()) != x.counts {
			t.Errorf("Quota %d: %d leases", x.quota, len(table.List()))
		}
	}
}

func TestSet(t *testing.T) {
	table := lease.New(setting)
	table.Put(made(3, 1, 0))
	table.Put(made(4, 1, 5))
	table.Put(made(5, 0, 6))
	for name, l := range map[string]api.Lease{
		"another session": made(6, 1, 5), "another car": made(4, 1, 4), "another fleet": made(4, 2, 5), "car of another": made(4, 1, 6),
		"session of another": made(5, 1, 5), "fleet of another": made(4, 0, 5), "of nobody": made(9, 3, 7),
	} {
		expect(t, name, table.Set(l), api.ErrNone)
		expectList(t, table, made(3, 1, 0), made(4, 1, 5), made(5, 0, 6))
	}
	expect(t, "Set of none", lease.New(setting).Set(made(3, 1, 0)), api.ErrNone)
	changed := api.Lease{Ask: api.Ask{Session: 4, Fleet: 1, From: 5, To: 0, Mass: 600}, Car: 5, Phase: api.Leave, Until: -1, Renewed: 8, Granted: 77}
	expect(t, "Set", table.Set(changed), api.OK)
	expectList(t, table, made(3, 1, 0), changed, made(5, 0, 6))
	// A fleet at its quota is no bar to it.
	expect(t, "Set of the first", table.Set(made(3, 1, 0)), api.OK)
	expectList(t, table, made(3, 1, 0), changed, made(5, 0, 6))
}

func TestEndOfAndCar(t *testing.T) {
	fill := func() *lease.Table {
		table := lease.New(setting)
		table.Put(made(3, 1, 0))
		table.Put(made(4, 1, 5))
		table.Put(made(0, 0, 3))
		return table
	}
	table := fill()
	for _, x := range []struct {
		session, car int
		want         api.Lease
		there        bool
		rest         []api.Lease
	}{
		{3, 0, made(3, 1, 0), true, []api.Lease{made(4, 1, 5), made(0, 0, 3)}},
		{4, 5, made(4, 1, 5), true, []api.Lease{made(3, 1, 0), made(0, 0, 3)}},
		{0, 3, made(0, 0, 3), true, []api.Lease{made(3, 1, 0), made(4, 1, 5)}},
		{5, 4, api.Lease{}, false, nil}, {-1, -1, api.Lease{}, false, nil}, {1, 1, api.Lease{}, false, nil},
		{math.MinInt, math.MinInt, api.Lease{}, false, nil}, {math.MaxInt, math.MaxInt, api.Lease{}, false, nil},
	} {
		l, is := table.Of(x.session)
		expectLease(t, "Of", l, is, x.want, x.there)
		l, is = table.Car(x.car)
		expectLease(t, "Car", l, is, x.want, x.there)
		expectList(t, table, made(3, 1, 0), made(4, 1, 5), made(0, 0, 3))
		less := fill()
		l, is = less.End(x.session)
		expectLease(t, "End", l, is, x.want, x.there)
		if !x.there {
			x.rest = table.List()
		}
		expectList(t, less, x.rest...)
		l, is = less.End(x.session)
		expectLease(t, "End again", l, is, api.Lease{}, false)
		l, is = less.Of(x.session)
		expectLease(t, "Of what is gone", l, is, api.Lease{}, false)
		l, is = less.Car(x.car)
		expectLease(t, "Car of what is gone", l, is, api.Lease{}, false)
		expectList(t, less, x.rest...)
	}
}

func TestMemory(t *testing.T) {
	table := lease.New(setting)
	table.Put(made(3, 1, 0))
	table.Put(made(4, 1, 5))
	list := table.List()
	for i := range list[:cap(list)] {
		list[:cap(list)][i] = made(9, 3, 7)
	}
	expectList(t, table, made(3, 1, 0), made(4, 1, 5))
	kept := table.List()
	table.End(3)
	changed := made(4, 1, 5)
	changed.Phase = api.Go
	table.Set(changed)
	table.Put(made(8, 0, 1))
	if !slices.Equal(kept, []api.Lease{made(3, 1, 0), made(4, 1, 5)}) {
		t.Errorf("an answer changes: %+v", kept)
	}
	expectList(t, lease.New(setting))
}

func TestDrawnAgainstModel(t *testing.T) {
	for seed := range 100 {
		r := rand.New(rand.NewSource(int64(seed)))
		c := setting
		c.Quota = 1 + r.Intn(4)
		table := lease.New(c)
		var model []api.Lease
		for range 300 {
			l := made(r.Intn(8), r.Intn(3), r.Intn(8))
			l.Phase, l.Until = 1+r.Intn(4), r.Intn(100)
			session, place, fleet := -1, -1, 0
			for i, old := range model {
				if old.Session == l.Session {
					session = i
				}
				if old.Car == l.Car {
					place = i
				}
				if old.Fleet == l.Fleet {
					fleet++
				}
			}
			switch r.Intn(4) {
			case 0, 1:
				want := api.OK
				if session >= 0 || place >= 0 {
					want = api.ErrState
				} else if fleet >= c.Quota {
					want = api.ErrFull
				} else {
					model = append(model, l)
				}
				expect(t, "Put", table.Put(l), want)
			case 2:
				want := api.ErrNone
				if r.Intn(2) == 0 && session >= 0 {
					l.Car, l.Fleet, place = model[session].Car, model[session].Fleet, session
				}
				if session >= 0 && place == session && model[session].Fleet == l.Fleet {
					want = api.OK
					model[session] = l
				}
				expect(t, "Set", table.Set(l), want)
			case 3:
				var was api.Lease
				got, is := table.End(l.Session)
				if session >= 0 {
					was = model[session]
					model = append(model[:session:session], model[session+1:]...)
				}
				expectLease(t, "End", got, is, was, session >= 0)
			}
			expectList(t, table, model...)
			if t.Failed() {
				t.Fatalf("seed %d", seed)
			}
		}
	}
}
