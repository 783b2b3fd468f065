package eta_test

import (
	"math"
	"math/rand"
	"slices"
	"testing"

	"liftwell/api"
	"liftwell/eta"
)

var setting = api.Config{Floors: 10, Door: 3, Dwell: 5}

func TestChapter(t *testing.T) {
	for _, way := range []int{api.Up, api.Down} {
		if got := eta.Cost(setting, api.Car{}, api.Call{Floor: 2, Way: way}); got != 8 {
			t.Errorf("an idle car at 0, a call at 2: %d", got)
		}
	}
}

func TestCost(t *testing.T) {
	call := func(floor, way int) api.Call { return api.Call{Floor: floor, Way: way} }
	for _, x := range []struct {
		name string
		car  api.Car
		call api.Call
		want int
	}{
		{"still, above", api.Car{Unit: 6}, call(4, api.Down), 10},
		{"still, below", api.Car{Unit: 30}, call(4, api.Up), 14},
		{"still, here", api.Car{Unit: 16}, call(4, api.Up), 0},
		{"still, one stop", api.Car{Unit: 16, Stops: api.Stops{Press: 1}}, call(4, api.Up), 11},
		{"still, stops of each kind", api.Car{Unit: 16, Stops: api.Stops{Press: 3, Up: 6, Down: 8}}, call(4, api.Up), 55},
		{"up, ahead", api.Car{Unit: 6, Way: api.Up}, call(4, api.Up), 10},
		{"up, here", api.Car{Unit: 16, Way: api.Up}, call(4, api.Up), 0},
		{"up, one unit behind", api.Car{Unit: 17, Way: api.Up}, call(4, api.Up), 1 + 72},
		{"up, far behind", api.Car{Unit: 36, Way: api.Up}, call(0, api.Up), 36 + 72},
		{"up, ahead, for down", api.Car{Unit: 6, Way: api.Up}, call(4, api.Down), 10 + 72},
		{"up, here, for down", api.Car{Unit: 16, Way: api.Up}, call(4, api.Down), 72},
		{"down, ahead", api.Car{Unit: 30, Way: api.Down}, call(4, api.Down), 14},
		{"down, here", api.Car{Unit: 16, Way: api.Down}, call(4, api.Down), 0},
		{"down, one unit behind", api.Car{Unit: 15, Way: api.Down}, call(4, api.Down), 1 + 72},
		{"down, ahead, for up", api.Car{Unit: 30, Way: api.Down}, call(4, api.Up), 14 + 72},
		{"down, behind, with stops", api.Car{Unit: 8, Way: api.Down, Stops: api.Stops{Press: 1, Down: 1}}, call(4, api.Down), 8 + 22 + 72},
		{"all else does not count", api.Car{Unit: 6, Way: api.Up, Door: api.Door{State: api.Open, At: 3}, Timer: 9, Just: 1, Load: 700, Blocked: true,
			Broken: true, Mode: api.Leased, Target: 9, Hold: true}, call(4, api.Up), 10},
		{"from the lowest to the topmost", api.Car{}, call(63, api.Down), 252},
		{"from the topmost to the lowest", api.Car{Unit: 252, Way: api.Down}, call(0, api.Down), 252},
	} {
		if got := eta.Cost(setting, x.car, x.call); got != x.want {
			t.Errorf("%s: %d, want %d", x.name, got, x.want)
		}
	}
}

func TestSettingsBeyondTheBounds(t *testing.T) {
	spans := []struct{ given, counts int }{{math.MinInt, 1}, {-1, 1}, {0, 1}, {1, 1}, {2, 2}, {999, 999}, {1000, 1000}, {1001, 1000}, {math.MaxInt, 1000}}
	floors := []struct{ given, counts int }{{math.MinInt, 2}, {-1, 2}, {1, 2}, {2, 2}, {3, 3}, {63, 63}, {64, 64}, {65, 64}, {math.MaxInt, 64}}
	x := api.Car{Unit: 8, Way: api.Up, Stops: api.Stops{Press: 5, Up: 1, Down: 1 << 63}}
	for _, door := range spans {
		for _, dwell := range spans {
			for _, n := range floors {
				c := api.Config{Floors: n.given, Door: door.given, Dwell: dwell.given}
				want := 8 + 4*(2*door.counts+dwell.counts) + 8*(n.counts-1)
				if got := eta.Cost(c, x, api.Call{Floor: 0, Way: api.Up}); got != want {
					t.Errorf("Cost of %+v = %d, want %d", c, got, want)
				}
			}
		}
	}
}

func cost(c api.Config, x api.Car, call api.Call) int {
	n := x.Unit - 4*call.Floor
	if n < 0 {
		n = -n
	}
	for kind := range 3 {
		for bits := []uint64{x.Stops.Press, x.Stops.Up, x.Stops.Down}[kind]; bits > 0; bits >>= 1 {
			n += int(bits&1) * (2*c.Door + c.Dwell)
		}
	}
	free := x.Way == api.Still
	if x.Way == api.Up && call.Way == api.Up {
		free = 4*call.Floor >= x.Unit
	}
	if x.Way == api.Down && call.Way == api.Down {
		free = 4*call.Floor <= x.Unit
	}
	if !free {
		n += 8 * (c.Floors - 1)
	}
	return n
}

func drawnCar(r *rand.Rand, floors int) api.Car {
	x := api.Car{Unit: r.Intn(4*floors - 3), Way: r.Intn(3), Load: r.Intn(900), Timer: r.Intn(9), Blocked: r.Intn(5) == 0}
	if r.Intn(2) == 0 {
		x.Stops = api.Stops{Press: r.Uint64() & r.Uint64() & r.Uint64(), Up: r.Uint64() & r.Uint64() & r.Uint64(), Down: uint64(r.Intn(4))}
	}
	return x
}

func TestDrawn(t *testing.T) {
	r := rand.New(rand.NewSource(15))
	for range 20000 {
		c := api.Config{Floors: 2 + r.Intn(63), Door: 1 + r.Intn(1000), Dwell: 1 + r.Intn(1000), Cars: r.Intn(9)}
		call := api.Call{Floor: r.Intn(c.Floors), Way: 1 + r.Intn(2)}
		cars := make([]api.Car, r.Intn(9))
		best, least := -1, math.MaxInt
		for n := range cars {
			cars[n] = drawnCar(r, c.Floors)
			if n > 0 && r.Intn(4) == 0 {
				cars[n] = cars[n-1]
			}
			if r.Intn(4) == 0 {
				cars[n].Mode = 1 + r.Intn(2)
			}
			cars[n].Broken = r.Intn(5) == 0
			want := cost(c, cars[n], call)
			if got := eta.Cost(c, cars[n], call); got != want {
				t.Fatalf("Cost(%+v, %+v, %+v) = %d, want %d", c, cars[n], call, got, want)
			}
			if cars[n].Mode == api.Normal && !cars[n].Broken && want < least {
				best, least = n, want
			}
		}
		before := slices.Clone(cars)
		if got := eta.Best(c, cars, call); got != best {
			t.Fatalf("Best(%+v, %+v, %+v) = %d, want %d", c, cars, call, got, best)
		}
		if !slices.Equal(cars, before) {
			t.Fatal("Best changed its cars")
		}
	}
}

func TestBest(t *testing.T) {
	near, far := api.Car{Unit: 8}, api.Car{Unit: 20}
	leased, broken, gone := near, near, near
	leased.Mode, broken.Broken, gone.Mode = api.Leased, true, api.Broken
	call := api.Call{Floor: 2, Way: api.Up}
	for _, x := range []struct {
		name string
		cars []api.Car
		want int
	}{
		{"none", nil, -1}, {"none, empty", []api.Car{}, -1}, {"one", []api.Car{far}, 0},
		{"the nearer one", []api.Car{far, near}, 1}, {"the nearer one, first", []api.Car{near, far}, 0},
		{"the least number", []api.Car{far, near, near, far}, 1}, {"all equal", []api.Car{far, far, far}, 0},
		{"a leased one", []api.Car{leased}, -1}, {"a broken one", []api.Car{broken}, -1}, {"of mode Broken", []api.Car{gone}, -1},
		{"leased and broken ones", []api.Car{leased, broken, gone, leased}, -1},
		{"the only one", []api.Car{leased, broken, far, gone}, 2}, {"one behind others", []api.Car{leased, far, broken, near}, 3},
		{"a broken leased one", []api.Car{{Mode: api.Leased, Broken: true}, far}, 1},
	} {
		if got := eta.Best(setting, x.cars, call); got != x.want {
			t.Errorf("%s: %d, want %d", x.name, got, x.want)
		}
	}
}
