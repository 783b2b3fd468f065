package fleet_test

import (
	"math"
	"math/rand"
	"slices"
	"testing"

	"liftwell/api"
	"liftwell/fleet"
)

var (
	setting = api.Config{Sessions: 5, Fleets: 3, Floors: 6, Load: 600, Quota: 2}
	ask     = api.Ask{Session: 2, Fleet: 1, From: 3, To: 4, Mass: 80}
)

func leases(fleets ...int) []api.Lease {
	var list []api.Lease
	for i, n := range fleets {
		list = append(list, api.Lease{Ask: api.Ask{Session: i, Fleet: n}, Car: i})
	}
	return list
}

func TestChapter(t *testing.T) {
	a := ask
	a.From, a.To = 2, 2
	if fleet.May(setting, a) {
		t.Error("May with From 2, To 2")
	}
}

func TestQuota(t *testing.T) {
	for _, x := range []struct{ n, want int }{
		{math.MinInt, 1}, {-1, 1}, {0, 1}, {1, 1}, {2, 2}, {5, 5}, {7, 7}, {8, 8}, {9, 8}, {100, 8}, {1 << 32, 8}, {math.MaxInt, 8},
	} {
		if got := fleet.Quota(api.Config{Quota: x.n}); got != x.want {
			t.Errorf("Quota %d: %d, want %d", x.n, got, x.want)
		}
	}
}

func TestCount(t *testing.T) {
	list := leases(1, 2, 1, 1, -3, math.MaxInt, 0, -3)
	for _, x := range []struct{ fleet, want int }{
		{0, 1}, {1, 3}, {2, 1}, {3, 0}, {-1, 0}, {-3, 2}, {math.MaxInt, 1}, {math.MinInt, 0},
	} {
		if got := fleet.Count(list, x.fleet); got != x.want {
			t.Errorf("Count of %d: %d, want %d", x.fleet, got, x.want)
		}
		if fleet.Count(nil, x.fleet) != 0 || fleet.Count([]api.Lease{}, x.fleet) != 0 {
			t.Errorf("Count of %d among none", x.fleet)
		}
	}
	if !slices.Equal(list, leases(1, 2, 1, 1, -3, math.MaxInt, 0, -3)) {
		t.Error("Count changed the list")
	}
}

func TestFree(t *testing.T) {
	for _, x := range []struct {
		quota  int
		fleets []int
		fleet  int
		want   bool
	}{
		{2, nil, 1, true}, {2, []int{1}, 1, true}, {2, []int{1, 1}, 1, false}, {2, []int{1, 1, 1}, 1, false}, {2, []int{0, 2, 0, 2, 0}, 1, true},
		{2, []int{1, 0, 1}, 0, true}, {1, []int{1}, 1, false}, {1, nil, 1, true}, {0, nil, 1, true}, {0, []int{1}, 1, false}, {-5, []int{1}, 1, false}, {-5, []int{0}, 1, true},
		{8, []int{1, 1, 1, 1, 1, 1, 1}, 1, true}, {8, []int{1, 1, 1, 1, 1, 1, 1, 1}, 1, false}, {9, []int{1, 1, 1, 1, 1, 1, 1, 1}, 1, false},
		{math.MaxInt, []int{1, 1, 1, 1, 1, 1, 1, 1}, 1, false}, {math.MaxInt, []int{1, 1, 1, 1, 1, 1, 1}, 1, true}, {math.MinInt, []int{7}, 7, false},
	} {
		if got := fleet.Free(api.Config{Quota: x.quota}, leases(x.fleets...), x.fleet); got != x.want {
			t.Errorf("%+v: %t", x, got)
		}
	}
}

// fields are those of a request, by their names.
func fields() map[string]func(a *api.Ask) *int {
	return map[string]func(a *api.Ask) *int{
		"Session": func(a *api.Ask) *int { return &a.Session },
		"Fleet":   func(a *api.Ask) *int { return &a.Fleet },
		"From":    func(a *api.Ask) *int { return &a.From },
		"To":      func(a *api.Ask) *int { return &a.To },
		"Mass":    func(a *api.Ask) *int { return &a.Mass },
	}
}

func TestMay(t *testing.T) {
	for _, x := range []struct {
		name string
		c    api.Config
		last map[string]int
	}{
		{"usual", setting, map[string]int{"Session": 4, "Fleet": 2, "From": 5, "To": 5, "Mass": 600}},
		{"all too small", api.Config{Sessions: -1, Fleets: 0, Floors: 1, Load: 1}, map[string]int{"Session": 0, "Fleet": 0, "From": 1, "To": 1, "Mass": 1}},
		{"all 0 but a load", api.Config{Load: 7}, map[string]int{"Session": 0, "Fleet": 0, "From": 1, "To": 1, "Mass": 7}},
		{"all too large", api.Config{Sessions: 65, Fleets: 9, Floors: 65, Load: 10001}, map[string]int{"Session": 63, "Fleet": 7, "From": 63, "To": 63, "Mass": 10000}},
		{"at the ends", api.Config{Sessions: 64, Fleets: 8, Floors: 64, Load: 10000}, map[string]int{"Session": 63, "Fleet": 7, "From": 63, "To": 63, "Mass": 10000}},
		{"huge", api.Config{Sessions: math.MaxInt, Fleets: math.MaxInt, Floors: math.MaxInt, Load: math.MaxInt},
			map[string]int{"Session": 63, "Fleet": 7, "From": 63, "To": 63, "Mass": 10000}},
		{"lowest", api.Config{Sessions: math.MinInt, Fleets: math.MinInt, Floors: math.MinInt, Load: 5},
			map[string]int{"Session": 0, "Fleet": 0, "From": 1, "To": 1, "Mass": 5}},
		{"others do not count", api.Config{Sessions: 5, Fleets: 3, Floors: 6, Load: 600, Cars: -1, Queue: -1, Quota: -1, Slack: -1},
			map[string]int{"Session": 4, "Fleet": 2, "From": 5, "To": 5, "Mass": 600}},
	} {
		for name, field := range fields() {
			first, last := 0, x.last[name]
			if name == "Mass" {
				first = 1
			}
			for _, n := range []int{math.MinInt, -1 << 32, -1, first - 1, first, first + 1, last - 1, last, last + 1, last + 2, 1<<32 + first, math.MaxInt} {
				a := api.Ask{From: 0, To: 1, Mass: 1}
				if name == "From" && n == 1 || name == "To" && n == 0 {
					a.From, a.To = 1, 0
				}
				*field(&a) = n
				if got := fleet.May(x.c, a); got != (n >= first && n <= last) {
					t.Errorf("%s: %s %d: %t", x.name, name, n, got)
				}
			}
		}
	}
}

func TestMayOfTheSameFloor(t *testing.T) {
	for from := -1; from <= 6; from++ {
		for to := -1; to <= 6; to++ {
			a := ask
			a.From, a.To = from, to
			want := from >= 0 && from < 6 && to >= 0 && to < 6 && from != to
			if got := fleet.May(setting, a); got != want {
				t.Errorf("From %d, To %d: %t", from, to, got)
			}
		}
	}
}

func TestMayWithoutLoad(t *testing.T) {
	for _, load := range []int{0, -1, math.MinInt} {
		c := setting
		c.Load = load
		for _, mass := range []int{-5, 0, 1, 80} {
			a := ask
			a.Mass = mass
			if fleet.May(c, a) {
				t.Errorf("Load %d, Mass %d", load, mass)
			}
		}
	}
}

func TestDrawn(t *testing.T) {
	r := rand.New(rand.NewSource(17))
	in := func(n, many int) bool { return n >= 0 && n < many }
	for range 20000 {
		c := api.Config{Sessions: 1 + r.Intn(64), Fleets: 1 + r.Intn(8), Floors: 2 + r.Intn(63), Load: 1 + r.Intn(10000)}
		a := api.Ask{Session: r.Intn(70) - 2, Fleet: r.Intn(10) - 1, From: r.Intn(66) - 1, To: r.Intn(66) - 1, Mass: r.Intn(10002)}
		want := in(a.Session, c.Sessions) && in(a.Fleet, c.Fleets) && in(a.From, c.Floors) && in(a.To, c.Floors) && a.From != a.To && in(a.Mass-1, c.Load)
		if got := fleet.May(c, a); got != want {
			t.Fatalf("May(%+v, %+v) = %t", c, a, got)
		}
	}
}
