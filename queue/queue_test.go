package queue_test

import (
	"math"
	"math/rand"
	"slices"
	"testing"

	"liftwell/api"
	"liftwell/queue"
)

func ask(session, fleet int) api.Ask {
	return api.Ask{Session: session, Fleet: fleet, From: session + 1, To: fleet + 2, Mass: 7}
}

// filled has requests of the sessions, each of the fleet that is a tenth of it.
func filled(room int, sessions ...int) *queue.Queue {
	q := queue.New(room)
	for _, session := range sessions {
		q.Put(ask(session, session/10))
	}
	return q
}

func expectList(t *testing.T, q *queue.Queue, sessions ...int) {
	t.Helper()
	var want []api.Ask
	for _, session := range sessions {
		want = append(want, ask(session, session/10))
	}
	if got := q.List(); !slices.Equal(got, want) {
		t.Errorf("List %+v, want %+v", got, want)
	}
}

func expect(t *testing.T, name string, got, want api.Errno) {
	t.Helper()
	if got != want {
		t.Errorf("%s: %d, want %d", name, got, want)
	}
}

func TestChapter(t *testing.T) {
	q := filled(5, 4, 7)
	if ahead, ok := q.Ahead(7); ahead != 1 || !ok {
		t.Errorf("Ahead of 7: %d %t", ahead, ok)
	}
}

func TestNilQueue(t *testing.T) {
	var q *queue.Queue
	expect(t, "Put", q.Put(ask(1, 1)), api.ErrArg)
	ahead, ok := q.Ahead(0)
	first, is := q.First()
	if q.Drop(0) || ahead != 0 || ok || first != (api.Ask{}) || is || len(q.List()) != 0 {
		t.Error("a nil *Queue tells something")
	}
}

func TestRoom(t *testing.T) {
	for _, x := range []struct{ room, counts int }{
		{math.MinInt, 0}, {-1, 0}, {0, 0}, {1, 1}, {2, 2}, {63, 63}, {64, 64}, {65, 64}, {1 << 32, 64}, {math.MaxInt, 64},
	} {
		q := queue.New(x.room)
		for n := range 70 {
			want := api.OK
			if n >= x.counts {
				want = api.ErrFull
			}
			expect(t, "Put", q.Put(ask(n, 0)), want)
		}
		if len(q.List()) != x.counts {
			t.Errorf("room %d: %d wait", x.room, len(q.List()))
		}
	}
}

func TestPut(t *testing.T) {
	q := queue.New(3)
	expect(t, "Put", q.Put(ask(4, 0)), api.OK)
	expect(t, "the same again", q.Put(ask(4, 0)), api.ErrState)
	expect(t, "the same session", q.Put(ask(4, 5)), api.ErrState)
	expect(t, "Put", q.Put(ask(7, 0)), api.OK)
	expect(t, "a session below 0", q.Put(ask(-3, 0)), api.OK)
	expect(t, "the same session, and full", q.Put(ask(7, 9)), api.ErrState)
	expect(t, "full", q.Put(ask(8, 0)), api.ErrFull)
	expectList(t, q, 4, 7, -3)
	q.Drop(7)
	expect(t, "with room again", q.Put(ask(8, 0)), api.OK)
	expectList(t, q, 4, -3, 8)
	none := queue.New(0)
	expect(t, "no room", none.Put(ask(4, 0)), api.ErrFull)
	expect(t, "no room, again", none.Put(ask(4, 0)), api.ErrFull)
}

func TestDrop(t *testing.T) {
	for _, x := range []struct {
		session int
		was     bool
		rest    []int
	}{
		{4, true, []int{7, 15, 2}}, {7, true, []int{4, 15, 2}}, {15, true, []int{4, 7, 2}}, {2, true, []int{4, 7, 15}},
		{0, false, []int{4, 7, 15, 2}}, {-1, false, []int{4, 7, 15, 2}}, {math.MinInt, false, []int{4, 7, 15, 2}},
	} {
		q := filled(9, 4, 7, 15, 2)
		if got := q.Drop(x.session); got != x.was {
			t.Errorf("Drop(%d) = %t", x.session, got)
		}
		expectList(t, q, x.rest...)
		if q.Drop(x.session) {
			t.Errorf("Drop(%d) again", x.session)
		}
		expectList(t, q, x.rest...)
	}
	if queue.New(5).Drop(0) {
		t.Error("Drop of nobody")
	}
}

func TestAhead(t *testing.T) {
	q := filled(9, 4, 7, 15, 2)
	for _, x := range []struct {
		session, ahead int
		ok             bool
	}{{4, 0, true}, {7, 1, true}, {15, 2, true}, {2, 3, true}, {0, 0, false}, {5, 0, false}, {-1, 0, false}, {math.MaxInt, 0, false}} {
		if ahead, ok := q.Ahead(x.session); ahead != x.ahead || ok != x.ok {
			t.Errorf("Ahead(%d) = %d %t", x.session, ahead, ok)
		}
	}
	q.Drop(7)
	if ahead, ok := q.Ahead(2); ahead != 2 || !ok {
		t.Errorf("Ahead(2) = %d %t behind Drop(7)", ahead, ok)
	}
	if ahead, ok := queue.New(4).Ahead(0); ahead != 0 || ok {
		t.Errorf("Ahead of nobody: %d %t", ahead, ok)
	}
}

func TestFirst(t *testing.T) {
	q := filled(9, 14, 17, 25, 2, 31)
	for _, x := range []struct {
		fleets  []int
		session int
		ok      bool
	}{
		{nil, 14, true}, {[]int{}, 14, true}, {[]int{1}, 25, true}, {[]int{2}, 14, true}, {[]int{1, 2}, 2, true}, {[]int{2, 1}, 2, true},
		{[]int{0, 1, 2}, 31, true}, {[]int{0, 1, 2, 3}, 0, false}, {[]int{3, 1, 0, 2, 2, 9}, 0, false}, {[]int{1, 1, 1}, 25, true},
		{[]int{9, -1, math.MaxInt}, 14, true}, {[]int{0, 3}, 14, true},
	} {
		var want api.Ask
		if x.ok {
			want = ask(x.session, x.session/10)
		}
		before := slices.Clone(x.fleets)
		if got, ok := q.First(x.fleets...); got != want || ok != x.ok {
			t.Errorf("First(%v) = %+v %t", x.fleets, got, ok)
		}
		if !slices.Equal(before, x.fleets) {
			t.Errorf("First changed its fleets: %v", x.fleets)
		}
	}
	expectList(t, q, 14, 17, 25, 2, 31)
	if got, ok := queue.New(4).First(); got != (api.Ask{}) || ok {
		t.Errorf("First of nobody: %+v %t", got, ok)
	}
}

func TestMemory(t *testing.T) {
	q := filled(9, 4, 7, 15)
	list := q.List()
	for i := range list[:cap(list)] {
		list[:cap(list)][i] = ask(99, 99)
	}
	expectList(t, q, 4, 7, 15)
	kept := q.List()
	q.Drop(4)
	q.Put(ask(60, 6))
	expectList(t, q, 7, 15, 60)
	if !slices.Equal(kept, []api.Ask{ask(4, 0), ask(7, 0), ask(15, 1)}) {
		t.Errorf("an answer changes: %+v", kept)
	}
	expectList(t, queue.New(9))
}

func TestDrawnAgainstModel(t *testing.T) {
	for seed := range 60 {
		r := rand.New(rand.NewSource(int64(seed)))
		room := r.Intn(8)
		q := queue.New(room)
		var model []api.Ask
		for range 300 {
			session, fleet := r.Intn(8), r.Intn(3)
			at := slices.IndexFunc(model, func(a api.Ask) bool { return a.Session == session })
			switch r.Intn(3) {
			case 0, 1:
				want := api.OK
				if at >= 0 {
					want = api.ErrState
				} else if len(model) == room {
					want = api.ErrFull
				} else {
					model = append(model, ask(session, fleet))
				}
				expect(t, "Put", q.Put(ask(session, fleet)), want)
			case 2:
				if got := q.Drop(session); got != (at >= 0) {
					t.Fatalf("seed %d: Drop(%d) = %t", seed, session, got)
				}
				if at >= 0 {
					model = append(model[:at:at], model[at+1:]...)
				}
			}
			if !slices.Equal(q.List(), model) {
				t.Fatalf("seed %d: List %+v, want %+v", seed, q.List(), model)
			}
			var first api.Ask
			k := slices.IndexFunc(model, func(a api.Ask) bool { return a.Fleet != fleet })
			if k >= 0 {
				first = model[k]
			}
			if got, ok := q.First(fleet); got != first || ok != (k >= 0) {
				t.Fatalf("seed %d: First(%d) = %+v %t", seed, fleet, got, ok)
			}
		}
	}
}
