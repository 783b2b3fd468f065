package gateway_test

import (
	"bytes"
	"math/rand"
	"slices"
	"testing"

	"liftwell/api"
	"liftwell/frame"
	"liftwell/gateway"
	"liftwell/link"
	"liftwell/msg"
)

// A trip takes 4*3 + 3*2 + 4 = 22 ticks.
var setting = api.Config{Cars: 2, Floors: 4, Fleets: 3, Sessions: 8, Door: 2, Dwell: 3, Hold: 30, Renew: 2, Yield: 15,
	Queue: 2, Quota: 2, Load: 600, Slack: 5, Retry: 4, Cap: 16, Tries: 5, Dead: 100, Window: 4}

// with is the setting with a change.
func with(change func(c *api.Config)) api.Config {
	c := setting
	change(&c)
	return c
}

// framed are the bytes of packets, one behind the other.
func framed(packets ...api.Packet) []byte {
	var all []byte
	for _, p := range packets {
		payload, ok := msg.Put(p)
		if !ok {
			panic("a packet that is not good")
		}
		data, _ := frame.Put(payload)
		all = append(all, data...)
	}
	return all
}

// packet is what a frame says.
func packet(t *testing.T, data []byte) api.Packet {
	t.Helper()
	s := new(frame.Stream)
	s.Feed(data)
	payload, ok := s.Next()
	p, err := msg.Get(payload)
	if !ok || err != api.OK || s.Held() != 0 || !bytes.Equal(framed(p), data) {
		t.Fatalf("%x is no frame of a packet", data)
	}
	return p
}

func hello(session, number, fleet int) api.Packet {
	return api.Packet{Session: session, Has: true, Msg: api.Msg{Kind: api.Hello, A: number, B: fleet}}
}

func says(session, epoch, seq, ack int, m api.Msg) api.Packet {
	return api.Packet{Session: session, Epoch: epoch, Seq: seq, Ack: ack, Has: true, Msg: m}
}

// do does a step that has no error.
func do(t *testing.T, g *gateway.Gateway, kind, a, b int) []api.Out {
	t.Helper()
	outs, err := g.Do(api.Step{Kind: kind, A: a, B: b})
	if err != api.OK {
		t.Fatalf("step %d %d %d: %d", kind, a, b, err)
	}
	return outs
}

func come(t *testing.T, g *gateway.Gateway, data []byte) {
	t.Helper()
	if outs, err := g.Do(api.Step{Kind: api.StepBytes, Data: data}); err != api.OK || len(outs) != 0 {
		t.Fatalf("bytes: %+v %d", outs, err)
	}
}

// tick does a tick, and answers the packets that go out, in order.
func tick(t *testing.T, g *gateway.Gateway) []api.Packet {
	t.Helper()
	var list []api.Packet
	for _, out := range do(t, g, api.StepTick, 0, 0) {
		p := packet(t, out.Data)
		if p.Session != out.Session {
			t.Fatalf("a packet of %d to %d", p.Session, out.Session)
		}
		list = append(list, p)
	}
	return list
}

func ticks(t *testing.T, g *gateway.Gateway, n int) {
	t.Helper()
	for range n {
		tick(t, g)
	}
}

func expectPackets(t *testing.T, name string, got []api.Packet, want ...api.Packet) {
	t.Helper()
	if !slices.Equal(got, want) {
		t.Errorf("%s: %+v, want %+v", name, got, want)
	}
}

func expectSessions(t *testing.T, g *gateway.Gateway, want ...int) {
	t.Helper()
	if got := g.Sessions(); !slices.Equal(got, want) {
		t.Errorf("sessions %v, want %v", got, want)
	}
}

// A robot speaks by a link of its own.
type robot struct {
	c                      api.Config
	session, number, fleet int
	epoch                  int
	l                      *link.Link
	heard                  []api.Msg
	from, to, mass         int
	silent                 bool // it asks, but says no more
}

// hear takes a packet that has come out.
func (r *robot) hear(p api.Packet, now int) {
	if p.Has && p.Msg.Kind == api.Welcome && p.Msg.A == p.Epoch && p.Epoch != r.epoch {
		r.epoch = p.Epoch
		r.l = link.New(r.c, r.session, r.epoch, now)
		r.l.Send(api.Msg{Kind: api.Request, A: r.from, B: r.to, C: r.mass})
	}
	if r.l == nil {
		return
	}
	m, ok := r.l.Recv(p, now)
	if !ok {
		return
	}
	r.heard = append(r.heard, m)
	switch {
	case r.silent:
	case m.Kind == api.Arrived:
		r.l.Send(api.Msg{Kind: api.Entered})
	case m.Kind == api.Exit:
		r.l.Send(api.Msg{Kind: api.Exited})
	}
}

// speak is what a robot sends at a time: its hello, till it has an epoch.
func (r *robot) speak(now int) []byte {
	if r.l == nil {
		return framed(hello(r.session, r.number, r.fleet))
	}
	if p, ok := r.l.Poll(now); ok {
		return framed(p)
	}
	return nil
}

// kinds are those of what was heard.
func (r *robot) kinds() []int {
	var list []int
	for _, m := range r.heard {
		list = append(list, m.Kind)
	}
	return list
}

// turn is a tick of a gateway and of robots, on ways that lose nothing. A robot in a car is its load.
func turn(t *testing.T, g *gateway.Gateway, robots ...*robot) {
	t.Helper()
	for _, p := range tick(t, g) {
		for _, r := range robots {
			if r.session == p.Session {
				r.hear(p, g.Core().Group().Now())
			}
		}
	}
	for _, l := range g.Core().Leases() {
		if x := g.Core().Group().Cars()[l.Car]; l.Phase == api.Board && x.Load == 0 {
			do(t, g, api.StepLoad, l.Car, l.Mass)
		} else if l.Phase == api.Leave && x.Load != 0 {
			do(t, g, api.StepLoad, l.Car, 0)
		}
	}
	for _, r := range robots {
		if data := r.speak(g.Core().Group().Now()); data != nil {
			come(t, g, data)
		}
	}
}

// drawnBytes are bytes of no sort, with many that begin a frame.
func drawnBytes(r *rand.Rand) []byte {
	b := make([]byte, r.Intn(40))
	for i := range b {
		b[i] = []byte{0xa5, 0xa5, 8, 21, 1, 0, 64, byte(r.Intn(256))}[r.Intn(8)]
	}
	return b
}
