package gateway_test

import (
	"bytes"
	"math"
	"math/rand"
	"slices"
	"testing"

	"liftwell/api"
	"liftwell/core"
	"liftwell/frame"
	"liftwell/gateway"
	"liftwell/link"
	"liftwell/msg"
)

func TestChapter(t *testing.T) {
	g := gateway.New(setting)
	come(t, g, framed(hello(0, 9, 1)))
	expectPackets(t, "Welcome", tick(t, g), says(0, 1, 0, 0, api.Msg{Kind: api.Welcome, A: 1}))
	expectPackets(t, "nothing more", tick(t, g))
}

func TestNilGateway(t *testing.T) {
	var g *gateway.Gateway
	for kind := -1; kind <= 9; kind++ {
		if outs, err := g.Do(api.Step{Kind: kind, Data: framed(hello(0, 9, 1))}); len(outs) != 0 || err != api.ErrArg {
			t.Errorf("Do of %d: %+v %d", kind, outs, err)
		}
	}
	if g.Core() != nil || len(g.Sessions()) != 0 || g.Epoch(0) != 0 || len(g.Views()) != 0 {
		t.Error("a nil *Gateway tells something")
	}
}

func TestNew(t *testing.T) {
	g := gateway.New(setting)
	if g.Core() == nil || g.Core() != g.Core() || g.Core().Group().Now() != 0 {
		t.Error("Core is the object itself")
	}
	expectSessions(t, g)
	for _, session := range []int{math.MinInt, -1, 0, 7, 8, 255, math.MaxInt} {
		if g.Epoch(session) != 0 {
			t.Errorf("Epoch of %d: %d", session, g.Epoch(session))
		}
	}
	if !slices.Equal(g.Views(), []api.View{{}, {}}) {
		t.Errorf("views %+v", g.Views())
	}
}

func TestOtherKinds(t *testing.T) {
	g := gateway.New(setting)
	for _, kind := range []int{math.MinInt, -1, 0, 9, 10, 1<<32 + 1, math.MaxInt} {
		outs, err := g.Do(api.Step{Kind: kind, A: 1, B: 1, Data: framed(hello(0, 9, 1))})
		if len(outs) != 0 || err != api.ErrArg {
			t.Errorf("kind %d: %+v %d", kind, outs, err)
		}
	}
	expectSessions(t, g)
	if g.Core().Group().Now() != 0 {
		t.Error("a tick went by")
	}
}

func TestSteps(t *testing.T) {
	for _, x := range []struct {
		name       string
		kind, a, b int
		want       api.Errno
	}{
		{"hall", api.StepHall, 2, api.Up, api.OK}, {"hall, down", api.StepHall, 3, api.Down, api.OK}, {"hall, up of the topmost", api.StepHall, 3, api.Up, api.ErrArg},
		{"hall, down of the lowest", api.StepHall, 0, api.Down, api.ErrArg}, {"hall, no floor", api.StepHall, -1, api.Up, api.ErrArg}, {"hall, no way", api.StepHall, 1, 0, api.ErrArg},
		{"press", api.StepPress, 1, 3, api.OK}, {"press, no car", api.StepPress, 2, 3, api.ErrArg}, {"press, no floor", api.StepPress, 1, 4, api.ErrArg},
		{"press, car -1", api.StepPress, -1, 0, api.ErrArg}, {"press, leased", api.StepPress, 0, 3, api.ErrState},
		{"load", api.StepLoad, 1, 70, api.OK}, {"load, no car", api.StepLoad, 2, 70, api.ErrArg}, {"load below 0", api.StepLoad, 1, -70, api.OK}, {"load, car -1", api.StepLoad, -1, 0, api.ErrArg},
		{"curtain", api.StepCurtain, 1, 1, api.OK}, {"curtain, no car", api.StepCurtain, 2, 1, api.ErrArg}, {"curtain, B 5", api.StepCurtain, 1, 5, api.OK},
		{"fault", api.StepFault, 1, 1, api.OK}, {"fault, no car", api.StepFault, 2, 1, api.ErrArg}, {"fault, B 0", api.StepFault, 1, 0, api.OK},
		{"tick", api.StepTick, -9, 9, api.OK}, {"list", api.StepList, -9, 9, api.OK}, {"bytes", api.StepBytes, -9, 9, api.OK},
	} {
		g := gateway.New(setting)
		g.Core().Group().Take(0, 1)
		outs, err := g.Do(api.Step{Kind: x.kind, A: x.a, B: x.b})
		if err != x.want || (len(outs) > 0) != (x.kind == api.StepList) {
			t.Errorf("%s: %+v %d, want %d", x.name, outs, err, x.want)
		}
	}
}

func TestWhatStepsDo(t *testing.T) {
	g := gateway.New(setting)
	do(t, g, api.StepHall, 3, api.Down)
	do(t, g, api.StepPress, 1, 2)
	do(t, g, api.StepLoad, 1, 70)
	do(t, g, api.StepCurtain, 0, 1)
	if w := g.Core().Group().Waits(); len(w) != 1 || w[0].Call != (api.Call{Floor: 3, Way: api.Down}) {
		t.Errorf("waits %+v", w)
	}
	cars := g.Core().Group().Cars()
	if cars[1].Stops != (api.Stops{Press: 4}) || cars[1].Load != 70 || cars[1].Blocked || !cars[0].Blocked || cars[0].Load != 0 {
		t.Errorf("cars %+v", cars)
	}
	for _, b := range []int{1, 0, 1, 2, 1, -1, 1, math.MaxInt, 1, math.MinInt} {
		do(t, g, api.StepCurtain, 0, b)
		do(t, g, api.StepFault, 1, b)
		if cars := g.Core().Group().Cars(); cars[0].Blocked != (b == 1) || cars[1].Broken != (b == 1) {
			t.Errorf("B %d: %+v", b, cars)
		}
	}
	do(t, g, api.StepTick, 0, 0)
	if g.Core().Group().Now() != 1 {
		t.Errorf("Now %d", g.Core().Group().Now())
	}
}

func TestViewsAndList(t *testing.T) {
	g := gateway.New(with(func(c *api.Config) { c.Cars = 4 }))
	g.Core().Group().Take(2, 3)
	do(t, g, api.StepPress, 0, 0)
	do(t, g, api.StepPress, 1, 3)
	do(t, g, api.StepFault, 3, 1)
	do(t, g, api.StepLoad, 3, -250)
	do(t, g, api.StepLoad, 1, 80)
	ticks(t, g, 2)
	want := []api.View{{Unit: 0, Door: api.Open}, {Unit: 2, Way: api.Up, Load: 80}, {Unit: 2, Mode: api.Leased, Way: api.Up}, {Mode: api.Broken, Load: -250}}
	if got := g.Views(); !slices.Equal(got, want) {
		t.Errorf("views %+v", got)
	}
	text := "0 0 2 0 0 0\n1 2 0 0 1 80\n2 2 0 1 1 0\n3 0 0 2 0 -250\n"
	outs := do(t, g, api.StepList, 0, 0)
	if len(outs) != 1 || outs[0].Session != api.ToAdmin || string(outs[0].Data) != text {
		t.Errorf("list %+v, want %q", outs, text)
	}
	do(t, g, api.StepFault, 2, 1)
	if v := g.Views()[2]; v.Mode != api.Broken {
		t.Errorf("a broken leased car: %+v", v)
	}
	ticks(t, g, 20)
	do(t, g, api.StepPress, 1, 0)
	ticks(t, g, 12)
	if v := g.Views()[1]; v.Way != api.Down {
		t.Errorf("a car that goes down: %+v", v)
	}
	one := gateway.New(with(func(c *api.Config) { c.Cars = -3 }))
	if outs := do(t, one, api.StepList, 0, 0); len(outs) != 1 || string(outs[0].Data) != "0 0 0 0 0 0\n" {
		t.Errorf("list of one: %+v", outs)
	}
}

func TestHello(t *testing.T) {
	g := gateway.New(setting)
	come(t, g, framed(hello(3, 9, 1)))
	expectSessions(t, g, 3)
	// The same again, and one with another C, change nothing.
	same := hello(3, 9, 1)
	same.Ack, same.Msg.C = 7, 8
	come(t, g, framed(hello(3, 9, 1), same))
	if g.Epoch(3) != 1 {
		t.Errorf("epoch %d", g.Epoch(3))
	}
	expectPackets(t, "Welcome", tick(t, g), says(3, 1, 0, 0, api.Msg{Kind: api.Welcome, A: 1}))
	come(t, g, framed(hello(3, 9, 1)))
	if g.Epoch(3) != 1 {
		t.Errorf("epoch %d", g.Epoch(3))
	}
	expectPackets(t, "nothing", tick(t, g))
	come(t, g, framed(hello(0, 9, 1)))
	come(t, g, framed(hello(7, 9, 1)))
	expectSessions(t, g, 0, 3, 7)
	if g.Epoch(0) != 2 || g.Epoch(7) != 3 {
		t.Errorf("epochs %d %d", g.Epoch(0), g.Epoch(7))
	}
	expectPackets(t, "Welcomes, rising", tick(t, g), says(0, 2, 0, 0, api.Msg{Kind: api.Welcome, A: 2}), says(7, 3, 0, 0, api.Msg{Kind: api.Welcome, A: 3}))
}

func TestHelloOfAnother(t *testing.T) {
	for _, again := range []api.Packet{hello(3, 8, 1), hello(3, 9, 2), hello(3, 0, 0), hello(3, 1, 9)} {
		g := gateway.New(setting)
		come(t, g, framed(hello(3, 9, 1)))
		tick(t, g)
		come(t, g, framed(again))
		if g.Epoch(3) != 2 {
			t.Errorf("%+v: epoch %d", again, g.Epoch(3))
		}
		expectPackets(t, "a new Welcome", tick(t, g), says(3, 2, 0, 0, api.Msg{Kind: api.Welcome, A: 2}))
		// The first one is another one, now.
		come(t, g, framed(hello(3, 9, 1)))
		if g.Epoch(3) != 3 {
			t.Errorf("%+v: epoch %d", again, g.Epoch(3))
		}
	}
}

func TestHelloBehindAMessage(t *testing.T) {
	for _, m := range []api.Msg{{Kind: api.Request, A: 1, B: 2, C: 50}, {Kind: api.Entered}, {Kind: api.Hello, A: 9, B: 1}, {Kind: api.Welcome}} {
		g := gateway.New(setting)
		come(t, g, framed(hello(3, 9, 1)))
		// What does not come over the link, or came already, does not count.
		come(t, g, framed(says(3, 2, 0, 0, m), says(3, 1, 1, 0, m), api.Packet{Session: 3, Epoch: 1, Ack: 1}, hello(3, 9, 1)))
		if g.Epoch(3) != 1 {
			t.Errorf("%+v: epoch %d", m, g.Epoch(3))
		}
		come(t, g, framed(says(3, 1, 0, 0, m)))
		if g.Epoch(3) != 1 {
			t.Errorf("%+v: epoch %d", m, g.Epoch(3))
		}
		come(t, g, framed(hello(3, 9, 1)))
		if g.Epoch(3) != 2 || len(g.Core().Queue()) != 0 {
			t.Errorf("%+v: epoch %d, queue %+v", m, g.Epoch(3), g.Core().Queue())
		}
		// And no message has come over the new one.
		come(t, g, framed(hello(3, 9, 1)))
		if g.Epoch(3) != 2 {
			t.Errorf("%+v: epoch %d", m, g.Epoch(3))
		}
	}
}

func TestHelloEndsALease(t *testing.T) {
	g, r := gateway.New(setting), newRobot(setting, 2, 1, 3)
	for range 6 {
		turn(t, g, r)
	}
	if len(g.Core().Leases()) != 1 {
		t.Fatalf("leases %+v", g.Core().Leases())
	}
	come(t, g, framed(hello(2, r.number, 1)))
	if x := g.Core().Group().Cars()[0]; len(g.Core().Leases()) != 0 || x.Mode != api.Normal || g.Epoch(2) != 2 {
		t.Errorf("leases %+v, car %+v, epoch %d", g.Core().Leases(), x, g.Epoch(2))
	}
}

func TestWhatIsNoHello(t *testing.T) {
	for name, p := range map[string]api.Packet{
		"another epoch":    {Session: 3, Epoch: 1, Has: true, Msg: api.Msg{Kind: api.Hello}},
		"another number":   {Session: 3, Seq: 1, Has: true, Msg: api.Msg{Kind: api.Hello}},
		"last number":      {Session: 3, Seq: 65535, Has: true, Msg: api.Msg{Kind: api.Hello}},
		"no message":       {Session: 3},
		"another message":  {Session: 3, Has: true, Msg: api.Msg{Kind: api.Request, A: 1, B: 2, C: 50}},
		"another, Welcome": {Session: 3, Has: true, Msg: api.Msg{Kind: api.Welcome}},
		"no session":       hello(8, 9, 1),
		"no session, 255":  hello(255, 9, 1),
	} {
		g := gateway.New(setting)
		come(t, g, framed(p))
		expectSessions(t, g)
		if len(tick(t, g)) != 0 || len(g.Core().Queue()) != 0 {
			t.Errorf("%s: something happens", name)
		}
		// And where there is a session, it stays as it is.
		come(t, g, framed(hello(3, 9, 1)))
		come(t, g, framed(p))
		expectSessions(t, g, 3)
		if g.Epoch(3) != 1 {
			t.Errorf("%s: epoch %d", name, g.Epoch(3))
		}
	}
	// A hello over the link is a message, and nothing else.
	g := gateway.New(setting)
	come(t, g, framed(hello(3, 9, 1)))
	tick(t, g)
	come(t, g, framed(says(3, 1, 0, 1, api.Msg{Kind: api.Hello, A: 5, B: 2})))
	expectPackets(t, "an answer", tick(t, g), api.Packet{Session: 3, Epoch: 1, Seq: 1, Ack: 1})
}

func TestHowManySessions(t *testing.T) {
	for _, x := range []struct{ sessions, counts int }{{math.MinInt, 1}, {-1, 1}, {0, 1}, {1, 1}, {2, 2}, {63, 63}, {64, 64}, {65, 64}, {300, 64}, {math.MaxInt, 64}} {
		g := gateway.New(with(func(c *api.Config) { c.Sessions = x.sessions }))
		for session := range 256 {
			come(t, g, framed(hello(session, 9, 1)))
		}
		var want []int
		for n := range x.counts {
			want = append(want, n)
		}
		expectSessions(t, g, want...)
		if g.Epoch(x.counts-1) != x.counts || g.Epoch(x.counts) != 0 {
			t.Errorf("Sessions %d: epochs %d %d", x.sessions, g.Epoch(x.counts-1), g.Epoch(x.counts))
		}
	}
}

func TestEpochsGoRound(t *testing.T) {
	g := gateway.New(setting)
	for n := 1; n <= 65535+70000; n++ {
		session := n % 3
		come(t, g, framed(hello(session, n, 1)))
		want := (n-1)%65535 + 1
		if got := g.Epoch(session); got != want {
			t.Fatalf("hello %d: epoch %d, want %d", n, got, want)
		}
		if n == 65535 {
			expectPackets(t, "Welcome", tick(t, g)[n%3:n%3+1], says(session, want, 0, 0, api.Msg{Kind: api.Welcome, A: want}))
		}
	}
}

func TestPacketsOfNobody(t *testing.T) {
	g, r := gateway.New(setting), newRobot(setting, 2, 1, 3)
	for range 4 {
		turn(t, g, r)
	}
	request := api.Msg{Kind: api.Request, A: 0, B: 3, C: 50}
	before, leases := g.Core().Group().Cars(), g.Core().Leases()
	for _, p := range []api.Packet{
		says(4, 1, 0, 0, request), says(4, 0, 0, 0, request), says(200, 1, 0, 0, request), says(2, 2, 1, 0, api.Msg{Kind: api.Exited}),
		says(2, 0, 1, 0, api.Msg{Kind: api.Exited}), says(2, 65535, 1, 0, request), says(2, 1, 2, 0, request), says(2, 1, 0, 0, request), says(2, 1, 9, 0, request),
	} {
		come(t, g, framed(p))
	}
	if !slices.Equal(g.Core().Group().Cars(), before) || !slices.Equal(g.Core().Leases(), leases) || len(g.Core().Queue()) != 0 {
		t.Errorf("something changed: %+v %+v", g.Core().Leases(), g.Core().Queue())
	}
	expectSessions(t, g, 2)
}

func TestBytesThatSayNothing(t *testing.T) {
	g := gateway.New(setting)
	good := framed(hello(3, 9, 1))
	// Frames that are no packets: too short, another version, a kind that is none, an odd message.
	var all []byte
	payload := good[2 : len(good)-4]
	for _, b := range [][]byte{{1}, payload[:8], payload[:20], append(bytes.Clone(payload), 0), bytes.Repeat([]byte{0xa5}, 64)} {
		f, _ := frame.Put(b)
		all = append(all, f...)
	}
	for _, at := range []int{0, 8, 9, 13, 17} {
		b := bytes.Clone(payload)
		b[at] = 0x80
		f, _ := frame.Put(b)
		all = append(all, f...)
	}
	come(t, g, all)
	come(t, g, []byte{0, 1, 2, 0xa5, 0xa5, 0, 255})
	turned := bytes.Clone(good)
	turned[5]++
	come(t, g, turned)
	come(t, g, nil)
	expectSessions(t, g)
	// A frame behind all this is found.
	come(t, g, bytes.Repeat([]byte{7}, 70))
	come(t, g, good)
	expectSessions(t, g, 3)
}

func TestDispatch(t *testing.T) {
	g := gateway.New(setting)
	come(t, g, framed(hello(3, 9, 2)))
	tick(t, g)
	seq, ack := 0, 1
	answer := func(m api.Msg) []api.Packet {
		come(t, g, framed(says(3, 1, seq, ack, m)))
		seq++
		return tick(t, g)
	}
	// Each answer is told by the next packet, so each Ack is one more.
	for _, x := range []struct{ m, want api.Msg }{
		{api.Msg{Kind: api.Entered}, api.Msg{Kind: api.Deny}}, {api.Msg{Kind: api.Exited}, api.Msg{Kind: api.Deny}}, {api.Msg{Kind: api.Renew}, api.Msg{Kind: api.Deny}},
		{api.Msg{Kind: api.Request, A: 1, B: 1, C: 50}, api.Msg{Kind: api.Deny}}, {api.Msg{Kind: api.Request, A: 1, B: 4, C: 50}, api.Msg{Kind: api.Deny}},
		{api.Msg{Kind: api.Request, A: 1, B: 2, C: 601}, api.Msg{Kind: api.Deny}}, {api.Msg{Kind: api.Request, A: 2, B: 1, C: 600}, api.Msg{Kind: api.Queued}},
	} {
		got := answer(x.m)
		expectPackets(t, "answer", got, says(3, 1, ack, seq, x.want))
		ack++
	}
	if l := g.Core().Leases(); len(l) != 1 || l[0].Ask != (api.Ask{Session: 3, Fleet: 2, From: 2, To: 1, Mass: 600}) {
		t.Errorf("leases %+v", l)
	}
	// Others say nothing that is heard, but are answered.
	quiet := gateway.New(setting)
	come(t, quiet, framed(hello(3, 9, 2)))
	tick(t, quiet)
	n := 0
	for kind := 1; kind <= 16; kind++ {
		if kind == api.Request || kind == api.Entered || kind == api.Exited || kind == api.Renew {
			continue
		}
		come(t, quiet, framed(says(3, 1, n, 1, api.Msg{Kind: kind, A: 1, B: 2, C: 50})))
		n++
		expectPackets(t, "no message", tick(t, quiet), api.Packet{Session: 3, Epoch: 1, Seq: 1, Ack: n})
	}
}

func TestFleetThatIsNone(t *testing.T) {
	g := gateway.New(setting)
	come(t, g, framed(hello(3, 9, 3)))
	tick(t, g)
	come(t, g, framed(says(3, 1, 0, 1, api.Msg{Kind: api.Request, A: 1, B: 2, C: 50})))
	expectPackets(t, "Deny", tick(t, g), says(3, 1, 1, 1, api.Msg{Kind: api.Deny}))
}

func TestBusy(t *testing.T) {
	g := gateway.New(with(func(c *api.Config) { c.Queue = 1 }))
	for n := range 3 {
		come(t, g, framed(hello(n, 9, 1)))
	}
	tick(t, g)
	for n := range 3 {
		come(t, g, framed(says(n, n+1, 0, 1, api.Msg{Kind: api.Request, A: 1, B: 2, C: 50})))
	}
	expectPackets(t, "answers", tick(t, g), says(0, 1, 1, 1, api.Msg{Kind: api.Queued}), says(1, 2, 1, 1, api.Msg{Kind: api.Busy}), says(2, 3, 1, 1, api.Msg{Kind: api.Busy}))
}

func TestNoRoomInTheWindow(t *testing.T) {
	g := gateway.New(with(func(c *api.Config) { c.Window = 1 }))
	come(t, g, framed(hello(3, 9, 1), hello(4, 9, 1)))
	tick(t, g)
	// The Welcome is not known to have come: there is no room for the answer.
	come(t, g, framed(says(3, 1, 0, 0, api.Msg{Kind: api.Request, A: 1, B: 2, C: 50})))
	expectSessions(t, g, 4)
	if g.Epoch(3) != 0 || len(g.Core().Queue()) != 0 {
		t.Errorf("epoch %d, queue %+v", g.Epoch(3), g.Core().Queue())
	}
	// By a tick, too: Queued waits, when Grant is to go out.
	come(t, g, framed(says(4, 2, 0, 1, api.Msg{Kind: api.Request, A: 1, B: 2, C: 50})))
	expectSessions(t, g, 4)
	if list := tick(t, g); len(list) != 0 {
		t.Errorf("%+v goes out", list)
	}
	expectSessions(t, g)
	if x := g.Core().Group().Cars()[0]; len(g.Core().Leases()) != 0 || x.Mode != api.Normal {
		t.Errorf("leases %+v, car %+v", g.Core().Leases(), x)
	}
}

func TestOnePacketATick(t *testing.T) {
	g := gateway.New(setting)
	come(t, g, framed(hello(3, 9, 1)))
	tick(t, g)
	come(t, g, framed(says(3, 1, 0, 1, api.Msg{Kind: api.Request, A: 1, B: 2, C: 50})))
	expectPackets(t, "Queued", tick(t, g), says(3, 1, 1, 1, api.Msg{Kind: api.Queued}))
	come(t, g, framed(api.Packet{Session: 3, Epoch: 1, Seq: 1, Ack: 2}))
	expectPackets(t, "Grant", tick(t, g), says(3, 1, 2, 1, api.Msg{Kind: api.Grant}))
}

func TestLinksThatDie(t *testing.T) {
	// By silence: the hello came at 2, and nothing was heard since.
	g := gateway.New(with(func(c *api.Config) { c.Dead, c.Tries = 10, 1000 }))
	ticks(t, g, 2)
	come(t, g, framed(hello(3, 9, 1)))
	ticks(t, g, 9)
	expectSessions(t, g, 3)
	if list := tick(t, g); len(list) != 0 {
		t.Errorf("a dead one says %+v", list)
	}
	expectSessions(t, g)
	// What comes keeps it alive.
	come(t, g, framed(hello(3, 9, 1)))
	for range 10 {
		ticks(t, g, 9)
		come(t, g, framed(api.Packet{Session: 3, Epoch: 2}))
	}
	expectSessions(t, g, 3)
	// A hello that comes again is nothing, and does not.
	ticks(t, g, 5)
	come(t, g, framed(hello(3, 9, 1)))
	ticks(t, g, 5)
	expectSessions(t, g)
	// By tries: sent at 1, 5 and 13, and due at 29.
	g = gateway.New(with(func(c *api.Config) { c.Tries, c.Dead = 2, 1000 }))
	come(t, g, framed(hello(3, 9, 1)))
	for now := 1; now <= 28; now++ {
		if list := tick(t, g); len(list) > 0 != (now == 1 || now == 5 || now == 13) {
			t.Errorf("at %d: %+v", now, list)
		}
	}
	expectSessions(t, g, 3)
	if list := tick(t, g); len(list) != 0 {
		t.Errorf("a dead one says %+v", list)
	}
	expectSessions(t, g)
	dead := gateway.New(with(func(c *api.Config) { c.Dead = 0 }))
	come(t, dead, framed(hello(3, 9, 1)))
	if list := tick(t, dead); len(list) != 0 {
		t.Errorf("a dead one says %+v", list)
	}
	expectSessions(t, dead)
}

func TestSilentRobotsLoseAll(t *testing.T) {
	c := with(func(c *api.Config) { c.Dead, c.Hold, c.Cars = 40, 1000, 2 })
	g := gateway.New(c)
	a, b := newRobot(c, 2, 1, 3), newRobot(c, 5, 1, 3)
	a.silent = true
	for range 12 {
		turn(t, g, a, b)
	}
	if len(g.Core().Leases()) != 1 || len(g.Core().Queue()) != 1 {
		t.Fatalf("%+v %+v", g.Core().Leases(), g.Core().Queue())
	}
	ticks(t, g, 50)
	expectSessions(t, g)
	if len(g.Core().Leases()) != 0 || len(g.Core().Queue()) != 0 {
		t.Errorf("%+v %+v", g.Core().Leases(), g.Core().Queue())
	}
	for _, v := range g.Views() {
		if v.Mode != api.Normal {
			t.Errorf("views %+v", g.Views())
		}
	}
}

func TestMemory(t *testing.T) {
	g := gateway.New(setting)
	data := append(framed(hello(3, 9, 1), hello(4, 9, 1)), 1, 2, 3)
	kept := bytes.Clone(data)
	half := len(framed(hello(3, 9, 1))) + 9
	come(t, g, data[:half])
	if !bytes.Equal(data, kept) {
		t.Error("bytes that were handed in are changed")
	}
	rest := bytes.Clone(data[half:])
	for i := range data {
		data[i] = 0
	}
	come(t, g, rest)
	expectSessions(t, g, 3, 4)
	sessions, views := g.Sessions(), g.Views()
	sessions[0], views[0] = 99, api.View{Unit: 99}
	expectSessions(t, g, 3, 4)
	if g.Views()[0] != (api.View{}) {
		t.Error("views are the gateway's own")
	}
	outs := do(t, g, api.StepTick, 0, 0)
	first := packet(t, outs[0].Data)
	for i := range outs {
		for j := range outs[i].Data[:cap(outs[i].Data)] {
			outs[i].Data[:cap(outs[i].Data)][j] = 0
		}
	}
	ticks(t, g, 3)
	again := tick(t, g)
	if len(again) != 2 || again[0] != first {
		t.Errorf("sent once more: %+v, first %+v", again, first)
	}
	ticks(t, g, 7)
	come(t, g, framed(api.Packet{Session: 3, Epoch: 1, Ack: 1}))
	late := do(t, g, api.StepTick, 0, 0)
	was := packet(t, late[0].Data)
	come(t, g, framed(hello(5, 9, 1), says(3, 1, 0, 1, api.Msg{Kind: api.Entered})))
	ticks(t, g, 9)
	if len(late) != 1 || late[0].Session != 4 || packet(t, late[0].Data) != was {
		t.Errorf("an answer changes: %+v, was %+v", late, was)
	}
	lines := do(t, g, api.StepList, 0, 0)
	lines[0].Data[0] = 'x'
	if more := do(t, g, api.StepList, 0, 0); string(more[0].Data) != "0 0 0 0 0 0\n1 0 0 0 0 0\n" {
		t.Errorf("list %q", more[0].Data)
	}
	if other := gateway.New(setting); len(other.Sessions()) != 0 || other.Core().Group().Now() != 0 {
		t.Error("one gateway has what another one has")
	}
}

func TestAnyParts(t *testing.T) {
	for seed := range 20 {
		r := rand.New(rand.NewSource(int64(seed)))
		whole, parted := gateway.New(setting), gateway.New(setting)
		for range 120 {
			var all []byte
			for range r.Intn(4) {
				session := r.Intn(9)
				switch r.Intn(4) {
				case 0:
					all = append(all, framed(hello(session, r.Intn(2), r.Intn(3)))...)
				case 1:
					all = append(all, drawnBytes(r)...)
				default:
					all = append(all, framed(says(session, whole.Epoch(session), r.Intn(3), r.Intn(3), api.Msg{Kind: 1 + r.Intn(16), A: r.Intn(4), B: r.Intn(4), C: 100}))...)
				}
			}
			come(t, whole, all)
			for len(all) > 0 {
				n := 1 + r.Intn(len(all))
				if r.Intn(2) == 0 {
					n = 1
				}
				come(t, parted, all[:n])
				all = all[n:]
			}
			if a, b := tick(t, whole), tick(t, parted); !slices.Equal(a, b) {
				t.Fatalf("seed %d: %+v and %+v", seed, a, b)
			}
			if !slices.Equal(whole.Sessions(), parted.Sessions()) || !slices.Equal(whole.Core().Leases(), parted.Core().Leases()) ||
				!slices.Equal(whole.Core().Queue(), parted.Core().Queue()) || !slices.Equal(whole.Views(), parted.Views()) {
				t.Fatalf("seed %d: not the same", seed)
			}
		}
	}
}

// model is a gateway by the chapter's words, over the layers below.
type model struct {
	c      api.Config
	k      *core.Core
	s      frame.Stream
	links  [64]*link.Link
	hellos [64]api.Msg
	spoke  [64]bool
	epoch  int
}

func (m *model) end(n int) {
	m.k.Gone(n)
	m.links[n] = nil
}

func (m *model) out(events []api.Event) {
	for _, e := range events {
		if e.Session < 0 || e.Session > 63 || m.links[e.Session] == nil {
			continue
		}
		if !m.links[e.Session].Send(e.Msg) {
			m.end(e.Session)
		}
	}
}

func (m *model) come(p api.Packet) {
	n := p.Session
	if p.Has && p.Msg.Kind == api.Hello && p.Epoch == 0 && p.Seq == 0 && n < m.c.Sessions {
		old := m.links[n]
		if old != nil && !m.spoke[n] && m.hellos[n].A == p.Msg.A && m.hellos[n].B == p.Msg.B {
			return
		}
		if old != nil {
			m.end(n)
		}
		m.epoch++
		if m.epoch > 65535 {
			m.epoch = 1
		}
		m.links[n], m.hellos[n], m.spoke[n] = link.New(m.c, n, m.epoch, m.k.Group().Now()), p.Msg, false
		m.links[n].Send(api.Msg{Kind: api.Welcome, A: m.epoch})
		return
	}
	if n > 63 || m.links[n] == nil {
		return
	}
	got, ok := m.links[n].Recv(p, m.k.Group().Now())
	if !ok {
		return
	}
	m.spoke[n] = true
	switch got.Kind {
	case api.Request:
		m.out(m.k.Ask(api.Ask{Session: n, Fleet: m.hellos[n].B, From: got.A, To: got.B, Mass: got.C}))
	case api.Entered, api.Exited, api.Renew:
		m.out(m.k.Hear(n, got))
	}
}

func (m *model) do(s api.Step) ([]api.Packet, api.Errno) {
	g := m.k.Group()
	switch s.Kind {
	case api.StepBytes:
		m.s.Feed(s.Data)
		for {
			payload, ok := m.s.Next()
			if !ok {
				return nil, api.OK
			}
			if p, err := msg.Get(payload); err == api.OK {
				m.come(p)
			}
		}
	case api.StepHall:
		return nil, g.Hall(s.A, s.B)
	case api.StepPress:
		return nil, g.Press(s.A, s.B)
	case api.StepLoad:
		return nil, g.Load(s.A, s.B)
	case api.StepCurtain:
		return nil, g.Curtain(s.A, s.B == 1)
	case api.StepFault:
		return nil, g.Fault(s.A, s.B == 1)
	}
	events, _ := m.k.Tick()
	m.out(events)
	var list []api.Packet
	for n, l := range m.links {
		if l == nil {
			continue
		}
		if l.Dead(g.Now()) {
			m.end(n)
		} else if p, ok := l.Poll(g.Now()); ok {
			list = append(list, p)
		}
	}
	return list, api.OK
}

// same does a step on both sides, and holds all that can be seen of them against one another.
func same(t *testing.T, g *gateway.Gateway, m *model, s api.Step) []api.Packet {
	t.Helper()
	outs, err := g.Do(s)
	want, is := m.do(s)
	var got []api.Packet
	for _, out := range outs {
		got = append(got, packet(t, out.Data))
	}
	if err != is || !slices.Equal(got, want) {
		t.Fatalf("step %+v: %+v %d, want %+v %d", s, got, err, want, is)
	}
	var sessions []int
	for n, l := range m.links {
		epoch := 0
		if l != nil {
			sessions = append(sessions, n)
			epoch = l.Epoch()
		}
		if g.Epoch(n) != epoch {
			t.Fatalf("step %+v: epoch of %d is %d, want %d", s, n, g.Epoch(n), epoch)
		}
	}
	if !slices.Equal(g.Sessions(), sessions) || !slices.Equal(g.Core().Leases(), m.k.Leases()) || !slices.Equal(g.Core().Queue(), m.k.Queue()) ||
		!slices.Equal(g.Core().Group().Cars(), m.k.Group().Cars()) || !slices.Equal(g.Core().Group().Waits(), m.k.Group().Waits()) {
		t.Fatalf("step %+v: %v %+v %+v, want %v %+v %+v", s, g.Sessions(), g.Core().Leases(), g.Core().Queue(), sessions, m.k.Leases(), m.k.Queue())
	}
	for car, v := range g.Views() {
		x := m.k.Group().Cars()[car]
		mode := x.Mode
		if x.Broken {
			mode = api.Broken
		}
		if v != (api.View{Unit: x.Unit, Door: x.Door.State, Mode: mode, Way: x.Way, Load: x.Load}) {
			t.Fatalf("step %+v: view %+v of %+v", s, v, x)
		}
	}
	return got
}

// lawful has the promises P2, P3 and P5 of a gateway, which was seen, and had leases, a step ago.
func lawful(t *testing.T, c api.Config, g *gateway.Gateway, before []api.View, leases []api.Lease) {
	t.Helper()
	group := g.Core().Group()
	views, list := g.Views(), g.Core().Leases()
	ofSession, ofCar, ofFleet := map[int]int{}, map[int]int{}, map[int]int{}
	for _, l := range list {
		ofSession[l.Session]++
		ofCar[l.Car]++
		ofFleet[l.Fleet]++
		if ofSession[l.Session] > 1 || ofCar[l.Car] > 1 || ofFleet[l.Fleet] > c.Quota {
			t.Fatalf("leases %+v", list)
		}
		if v := views[l.Car]; (l.Phase == api.Board || l.Phase == api.Leave) && v.Mode != api.Broken && v.Door != api.Open {
			t.Fatalf("%+v, but its car is %+v", l, v)
		}
	}
	normal, broken := 0, 0
	for car, v := range views {
		switch v.Mode {
		case api.Normal:
			normal++
		case api.Broken:
			broken++
		}
		if v.Unit != before[car].Unit && (v.Door != api.Closed || before[car].Door != api.Closed) {
			t.Fatalf("car %d moved with its door open: %+v, then %+v", car, before[car], v)
		}
		if v.Unit%4 != 0 && v.Door != api.Closed {
			t.Fatalf("car %d is open between floors: %+v", car, v)
		}
	}
	if broken == 0 && normal == 0 {
		t.Fatalf("no car is people's: %+v", views)
	}
	for _, w := range group.Waits() {
		if group.Now()-w.Since > c.Yield && len(list) > len(leases) {
			t.Fatalf("granted, while %+v waits at %d", w, group.Now())
		}
	}
}

// drawnStep is a step of people, or of a fault.
func drawnStep(r *rand.Rand, c api.Config) api.Step {
	kind := api.StepHall + r.Intn(5)
	s := api.Step{Kind: kind, A: r.Intn(c.Cars+2) - 1, B: r.Intn(c.Floors+2) - 1}
	switch kind {
	case api.StepHall:
		s.A, s.B = r.Intn(c.Floors+2)-1, r.Intn(4)
	case api.StepLoad:
		s.B = []int{0, 100, 103, 56, 700}[r.Intn(5)]
	case api.StepFault, api.StepCurtain:
		s.B = []int{0, 0, 0, 1, 2}[r.Intn(5)]
	}
	return s
}

func TestDrawnAgainstModel(t *testing.T) {
	heard := map[int]int{}
	for seed := range 60 {
		r := rand.New(rand.NewSource(int64(seed)))
		c := with(func(c *api.Config) {
			c.Cars, c.Floors, c.Queue, c.Window = 2+r.Intn(3), 2+r.Intn(3), r.Intn(4), 1+r.Intn(4)
			c.Hold, c.Dead, c.Tries = 10+r.Intn(40), 30+r.Intn(60), 3+r.Intn(4)
		})
		g, m := gateway.New(c), &model{c: c, k: core.New(c)}
		var robots []*robot
		for n := range 4 {
			robots = append(robots, newRobot(c, 2*n, r.Intn(c.Floors), r.Intn(c.Floors)))
		}
		loses := r.Intn(4)
		var late [][]byte
		for range 400 {
			views, leases := g.Views(), g.Core().Leases()
			list := same(t, g, m, api.Step{Kind: api.StepTick})
			lawful(t, c, g, views, leases)
			for _, p := range list {
				if r.Intn(10) >= loses {
					robots[p.Session/2].hear(p, g.Core().Group().Now())
				}
			}
			for _, l := range g.Core().Leases() {
				if r.Intn(3) == 0 {
					kg := 0
					if l.Phase == api.Board || l.Phase == api.Go {
						kg = 100
					}
					same(t, g, m, api.Step{Kind: api.StepLoad, A: l.Car, B: kg})
				}
			}
			if r.Intn(12) == 0 {
				same(t, g, m, drawnStep(r, c))
			}
			for _, bot := range robots {
				if r.Intn(60) == 0 {
					bot.l, bot.number = nil, r.Intn(3)
				} else if bot.l != nil && r.Intn(20) == 0 {
					bot.l.Send(api.Msg{Kind: []int{api.Renew, api.Request, api.Entered, api.Exited, api.Hello}[r.Intn(5)], A: bot.to, B: bot.from, C: 100})
				}
				data := bot.speak(g.Core().Group().Now())
				if data == nil || r.Intn(10) < loses {
					continue
				}
				same(t, g, m, api.Step{Kind: api.StepBytes, Data: data})
				if r.Intn(4) == 0 {
					late = append(late, data)
				}
			}
			if len(late) > 0 && r.Intn(6) == 0 {
				// What came already comes once more, much later.
				same(t, g, m, api.Step{Kind: api.StepBytes, Data: late[r.Intn(len(late))]})
			}
			if r.Intn(20) == 0 {
				same(t, g, m, api.Step{Kind: api.StepBytes, Data: drawnBytes(r)})
			}
		}
		for _, bot := range robots {
			for _, m := range bot.heard {
				heard[m.Kind]++
			}
		}
	}
	for _, kind := range []int{api.Welcome, api.Grant, api.Queued, api.Busy, api.Deny, api.Arrived, api.RideOK, api.Exit, api.ExitOK, api.Evict} {
		if heard[kind] < 10 {
			t.Errorf("robots heard %d but %d times", kind, heard[kind])
		}
	}
}
