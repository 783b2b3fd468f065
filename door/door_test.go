package door_test

import (
	"math"
	"testing"

	"liftwell/api"
	"liftwell/door"
)

// settings are ticks as they are given, and as they count.
var settings = []struct{ given, counts int }{
	{math.MinInt, 1}, {-1, 1}, {0, 1}, {1, 1}, {2, 2}, {3, 3}, {7, 7}, {999, 999},
	{1000, 1000}, {1001, 1000}, {1 << 32, 1000}, {math.MaxInt, 1000},
}

var states = []int{math.MinInt, -2, -1, api.Closed, api.Opening, api.Open, api.Closing, 4, 5, math.MaxInt}

func TestChapter(t *testing.T) {
	d := door.Open(api.Door{})
	for range 3 {
		d = door.Tick(d, 3, false)
	}
	if d != (api.Door{State: api.Open, At: 3}) {
		t.Errorf("%+v", d)
	}
}

func TestGood(t *testing.T) {
	for _, x := range settings {
		n := x.counts
		for _, state := range states {
			for _, at := range []int{math.MinInt, -1000, -2, -1, 0, 1, 2, n - 2, n - 1, n, n + 1, n + 2, 1000, 1001, math.MaxInt} {
				want := false
				switch state {
				case api.Closed:
					want = at == 0
				case api.Open:
					want = at == n
				case api.Opening, api.Closing:
					want = 0 <= at && at <= n
				}
				d := api.Door{State: state, At: at}
				if got := door.Good(d, x.given); got != want {
					t.Errorf("Good(%+v, %d) = %t", d, x.given, got)
				}
			}
		}
	}
}

func TestOpenAndClose(t *testing.T) {
	for _, x := range []struct{ from, opened, closed int }{
		{api.Closed, api.Opening, api.Closed}, {api.Opening, api.Opening, api.Closing},
		{api.Open, api.Open, api.Closing}, {api.Closing, api.Opening, api.Closing},
	} {
		for _, at := range []int{0, 1, 5, 1000} {
			d := api.Door{State: x.from, At: at}
			if got := door.Open(d); got != (api.Door{State: x.opened, At: at}) {
				t.Errorf("Open(%+v) = %+v", d, got)
			}
			if got := door.Close(d); got != (api.Door{State: x.closed, At: at}) {
				t.Errorf("Close(%+v) = %+v", d, got)
			}
		}
	}
}

func TestTick(t *testing.T) {
	const (
		c, g, o, s = api.Closed, api.Opening, api.Open, api.Closing
	)
	for _, x := range []struct {
		from    api.Door
		ticks   int
		blocked bool
		want    api.Door
	}{
		{api.Door{State: c}, 3, false, api.Door{State: c}},
		{api.Door{State: c}, 3, true, api.Door{State: c}},
		{api.Door{State: o, At: 3}, 3, false, api.Door{State: o, At: 3}},
		{api.Door{State: o, At: 3}, 3, true, api.Door{State: o, At: 3}},
		{api.Door{State: g, At: 0}, 3, false, api.Door{State: g, At: 1}},
		{api.Door{State: g, At: 1}, 3, true, api.Door{State: g, At: 2}},
		{api.Door{State: g, At: 2}, 3, false, api.Door{State: o, At: 3}},
		{api.Door{State: g, At: 2}, 3, true, api.Door{State: o, At: 3}},
		{api.Door{State: g, At: 3}, 3, false, api.Door{State: o, At: 3}},
		{api.Door{State: s, At: 3}, 3, false, api.Door{State: s, At: 2}},
		{api.Door{State: s, At: 2}, 3, false, api.Door{State: s, At: 1}},
		{api.Door{State: s, At: 1}, 3, false, api.Door{State: c, At: 0}},
		{api.Door{State: s, At: 0}, 3, false, api.Door{State: c, At: 0}},
		{api.Door{State: s, At: 3}, 3, true, api.Door{State: g, At: 3}},
		{api.Door{State: s, At: 2}, 3, true, api.Door{State: g, At: 2}},
		{api.Door{State: s, At: 0}, 3, true, api.Door{State: g, At: 0}},
		{api.Door{State: g, At: 0}, 1, false, api.Door{State: o, At: 1}},
		{api.Door{State: g, At: 0}, 0, false, api.Door{State: o, At: 1}},
		{api.Door{State: g, At: 0}, -9, false, api.Door{State: o, At: 1}},
		{api.Door{State: s, At: 1}, 0, false, api.Door{State: c, At: 0}},
		{api.Door{State: g, At: 998}, 1000, false, api.Door{State: g, At: 999}},
		{api.Door{State: g, At: 999}, 1000, false, api.Door{State: o, At: 1000}},
		{api.Door{State: g, At: 999}, 1001, false, api.Door{State: o, At: 1000}},
		{api.Door{State: g, At: 999}, math.MaxInt, false, api.Door{State: o, At: 1000}},
		{api.Door{State: g, At: 999}, 999, false, api.Door{State: o, At: 999}},
	} {
		if !door.Good(x.from, x.ticks) {
			t.Fatalf("%+v of %d is not good", x.from, x.ticks)
		}
		if got := door.Tick(x.from, x.ticks, x.blocked); got != x.want {
			t.Errorf("Tick(%+v, %d, %t) = %+v, want %+v", x.from, x.ticks, x.blocked, got, x.want)
		}
	}
}

func TestWholeWays(t *testing.T) {
	for _, x := range settings {
		d := door.Open(api.Door{})
		for at := 1; at <= x.counts; at++ {
			d = door.Tick(d, x.given, at%2 == 0)
			want := api.Door{State: api.Opening, At: at}
			if at == x.counts {
				want.State = api.Open
			}
			if d != want {
				t.Fatalf("ticks %d: %+v, want %+v", x.given, d, want)
			}
		}
		d = door.Close(d)
		for at := x.counts - 1; at >= 0; at-- {
			d = door.Tick(d, x.given, false)
			want := api.Door{State: api.Closing, At: at}
			if at == 0 {
				want.State = api.Closed
			}
			if d != want {
				t.Fatalf("ticks %d: %+v, want %+v", x.given, d, want)
			}
		}
	}
}

func TestGoodDoorsStayGood(t *testing.T) {
	for _, ticks := range []int{-1, 0, 1, 2, 5} {
		for state := range 4 {
			for at := range 7 {
				d := api.Door{State: state, At: at}
				if !door.Good(d, ticks) {
					continue
				}
				for _, to := range []api.Door{door.Tick(d, ticks, false), door.Tick(d, ticks, true),
					door.Tick(door.Open(d), ticks, false), door.Tick(door.Close(d), ticks, true), door.Tick(door.Close(d), ticks, false)} {
					if !door.Good(to, ticks) {
						t.Errorf("%+v of %d went to %+v", d, ticks, to)
					}
				}
			}
		}
	}
}
