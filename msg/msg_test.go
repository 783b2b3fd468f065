package msg_test

import (
	"bytes"
	"math"
	"math/rand"
	"testing"

	"liftwell/api"
	"liftwell/msg"
)

const top = 1<<31 - 1

// plain is a good packet with a message; bare is one without.
var (
	plain = api.Packet{Session: 3, Epoch: 0x1234, Seq: 0x5678, Ack: 0x9abc, Has: true,
		Msg: api.Msg{Kind: api.Request, A: 0x01020304, B: 0x05060708, C: 0x7f0a0b0c}}
	bare = api.Packet{Session: 200, Epoch: 0xfedc, Seq: 0xba98, Ack: 0x7654}
)

var (
	plainBytes = []byte{1, 3, 0x12, 0x34, 0x56, 0x78, 0x9a, 0xbc, 3,
		1, 2, 3, 4, 5, 6, 7, 8, 0x7f, 0x0a, 0x0b, 0x0c}
	bareBytes = []byte{1, 200, 0xfe, 0xdc, 0xba, 0x98, 0x76, 0x54}
)

// A number is one of a packet, with its lowest and its highest.
type number struct {
	name      string
	of        func(p *api.Packet) *int
	low, high int
	inMsg     bool
}

func numbers() []number {
	return []number{
		{"Session", func(p *api.Packet) *int { return &p.Session }, 0, 255, false},
		{"Epoch", func(p *api.Packet) *int { return &p.Epoch }, 0, 65535, false},
		{"Seq", func(p *api.Packet) *int { return &p.Seq }, 0, 65535, false},
		{"Ack", func(p *api.Packet) *int { return &p.Ack }, 0, 65535, false},
		{"Kind", func(p *api.Packet) *int { return &p.Msg.Kind }, 1, 16, true},
		{"A", func(p *api.Packet) *int { return &p.Msg.A }, 0, top, true},
		{"B", func(p *api.Packet) *int { return &p.Msg.B }, 0, top, true},
		{"C", func(p *api.Packet) *int { return &p.Msg.C }, 0, top, true},
	}
}

func thereAndBack(t *testing.T, p api.Packet) {
	t.Helper()
	long := 8
	if p.Has {
		long = 21
	}
	b, ok := msg.Put(p)
	if !ok || len(b) != long || !msg.Good(p) {
		t.Fatalf("Put(%+v) = %x %t, Good %t", p, b, ok, msg.Good(p))
	}
	if got, err := msg.Get(b); err != api.OK || got != p {
		t.Fatalf("Get(%x) = %+v %d, want %+v", b, got, err, p)
	}
}

func TestChapter(t *testing.T) {
	if b, ok := msg.Put(api.Packet{}); !ok || len(b) != 8 || !bytes.Equal(b, []byte{1, 0, 0, 0, 0, 0, 0, 0}) {
		t.Errorf("Put of a packet without a message: %x %t", b, ok)
	}
}

func TestBytes(t *testing.T) {
	for _, x := range []struct {
		p api.Packet
		b []byte
	}{{plain, plainBytes}, {bare, bareBytes}} {
		if b, ok := msg.Put(x.p); !ok || !bytes.Equal(b, x.b) {
			t.Errorf("Put(%+v) = %x %t, want %x", x.p, b, ok, x.b)
		}
		if p, err := msg.Get(x.b); err != api.OK || p != x.p {
			t.Errorf("Get(%x) = %+v %d, want %+v", x.b, p, err, x.p)
		}
	}
}

func TestEachNumberAtItsEnds(t *testing.T) {
	for _, x := range numbers() {
		for _, from := range []api.Packet{plain, bare} {
			if x.inMsg && !from.Has {
				continue
			}
			for _, n := range []int{x.low, x.low + 1, x.high - 1, x.high} {
				p := from
				*x.of(&p) = n
				thereAndBack(t, p)
			}
			for _, n := range []int{math.MinInt, -1 << 32, -65536, x.low - 1, x.high + 1, x.high + 2, 1 << 32, 1<<32 + 1, 1<<32 + x.high, math.MaxInt} {
				p := from
				*x.of(&p) = n
				b, ok := msg.Put(p)
				if msg.Good(p) || ok || len(b) != 0 {
					t.Errorf("%s %d: Good %t, Put %x %t", x.name, n, msg.Good(p), b, ok)
				}
			}
		}
	}
}

func TestEachKind(t *testing.T) {
	for kind := 1; kind <= 16; kind++ {
		p := plain
		p.Msg = api.Msg{Kind: kind}
		thereAndBack(t, p)
	}
	for _, kind := range []int{-1, 0, 17, 18, 255, 256, 257, 256 + 3} {
		p := plain
		p.Msg = api.Msg{Kind: kind}
		if b, ok := msg.Put(p); msg.Good(p) || ok || len(b) != 0 {
			t.Errorf("kind %d: Good %t, Put %x %t", kind, msg.Good(p), b, ok)
		}
	}
}

func TestMessageThatIsNotThere(t *testing.T) {
	for _, m := range []api.Msg{{Kind: 1}, {A: 1}, {B: 1}, {C: 1}, {Kind: -1}, {A: -1}, {C: math.MinInt}, plain.Msg} {
		p := bare
		p.Msg = m
		if b, ok := msg.Put(p); msg.Good(p) || ok || len(b) != 0 {
			t.Errorf("%+v: Good %t, Put %x %t", p, msg.Good(p), b, ok)
		}
	}
	if !msg.Good(bare) {
		t.Error("one without a message is good")
	}
}

func TestGetOfEachLength(t *testing.T) {
	if p, err := msg.Get(nil); err != api.ErrForm || p != (api.Packet{}) {
		t.Errorf("Get of nil: %+v %d", p, err)
	}
	room := append(append([]byte{}, plainBytes...), make([]byte, 20)...)
	for n := 0; n <= 30; n++ {
		p, err := msg.Get(room[:n])
		switch n {
		case 8:
			want := plain
			want.Has, want.Msg = false, api.Msg{}
			if err != api.OK || p != want {
				t.Errorf("Get of 8: %+v %d", p, err)
			}
		case 21:
			if err != api.OK || p != plain {
				t.Errorf("Get of 21: %+v %d", p, err)
			}
		default:
			if err != api.ErrForm || p != (api.Packet{}) {
				t.Errorf("Get of %d: %+v %d", n, p, err)
			}
		}
	}
}

// turned is plainBytes with some bytes set: places and bytes in turns.
func turned(pairs ...int) []byte {
	b := bytes.Clone(plainBytes)
	for i := 0; i < len(pairs); i += 2 {
		b[pairs[i]] = byte(pairs[i+1])
	}
	return b
}

func TestGetTellsWhatIsWrong(t *testing.T) {
	for _, x := range []struct {
		name string
		b    []byte
		want api.Errno
	}{
		{"version 0", turned(0, 0), api.ErrForm},
		{"version 2", turned(0, 2), api.ErrForm},
		{"version 255", turned(0, 255), api.ErrForm},
		{"version 0 of 8", []byte{0, 0, 0, 0, 0, 0, 0, 0}, api.ErrForm},
		{"version 2 of 8", []byte{2, 0, 0, 0, 0, 0, 0, 0}, api.ErrForm},
		{"kind 0", turned(8, 0), api.ErrKind},
		{"kind 17", turned(8, 17), api.ErrKind},
		{"kind 128", turned(8, 128), api.ErrKind},
		{"kind 255", turned(8, 255), api.ErrKind},
		{"A", turned(9, 0x80), api.ErrForm},
		{"B", turned(13, 0x80), api.ErrForm},
		{"C", turned(17, 0x80), api.ErrForm},
		{"A, all bits", turned(9, 255, 10, 255, 11, 255, 12, 255), api.ErrForm},
		{"C, all bits", turned(17, 255, 18, 255, 19, 255, 20, 255), api.ErrForm},
		{"version and kind", turned(0, 2, 8, 17), api.ErrForm},
		{"version and A", turned(0, 2, 9, 0x80), api.ErrForm},
		{"kind and A", turned(8, 0, 9, 0x80), api.ErrKind},
		{"kind and B", turned(8, 17, 13, 0x80), api.ErrKind},
		{"kind and C", turned(8, 17, 17, 0xff), api.ErrKind},
		{"length and kind", append(turned(8, 0), 0), api.ErrForm},
		{"length and version", turned(0, 0)[:20], api.ErrForm},
		{"version, kind and A", turned(0, 0, 8, 0, 9, 0x80), api.ErrForm},
	} {
		if p, err := msg.Get(x.b); err != x.want || p != (api.Packet{}) {
			t.Errorf("%s: %+v %d, want %d", x.name, p, err, x.want)
		}
	}
}

func TestDrawnThereAndBack(t *testing.T) {
	r := rand.New(rand.NewSource(6))
	for range 3000 {
		p := api.Packet{Session: r.Intn(256), Epoch: r.Intn(65536), Seq: r.Intn(65536), Ack: r.Intn(65536)}
		if r.Intn(2) == 0 {
			p.Has = true
			p.Msg = api.Msg{Kind: 1 + r.Intn(16), A: r.Intn(1 << 31), B: r.Intn(1 << 31), C: r.Intn(1 << 31)}
		}
		thereAndBack(t, p)
	}
}

func TestDrawnBytes(t *testing.T) {
	r := rand.New(rand.NewSource(7))
	for range 5000 {
		b := make([]byte, []int{8, 21, 21}[r.Intn(3)])
		r.Read(b)
		b[0] = 1
		if len(b) == 21 {
			b[8] = byte(r.Intn(18))
			b[9], b[13], b[17] = b[9]&0x7f, b[13]&0x7f, b[17]&0x7f
		}
		p, err := msg.Get(b)
		if err != api.OK {
			if len(b) == 8 || b[8] > 0 && b[8] < 17 || err != api.ErrKind {
				t.Fatalf("Get(%x): %d", b, err)
			}
			continue
		}
		if again, ok := msg.Put(p); !ok || !bytes.Equal(again, b) {
			t.Fatalf("Get(%x), Put: %x %t", b, again, ok)
		}
	}
}

func TestMemory(t *testing.T) {
	room := append(bytes.Clone(plainBytes), 7, 7, 7)
	before := bytes.Clone(room)
	if _, err := msg.Get(room[:21]); err != api.OK || !bytes.Equal(room, before) {
		t.Errorf("Get: %d, bytes %x", err, room)
	}
	first, _ := msg.Put(plain)
	again, _ := msg.Put(plain)
	for i := range first[:cap(first)] {
		first[:cap(first)][i] ^= 255
	}
	third, _ := msg.Put(plain)
	if !bytes.Equal(again, plainBytes) || !bytes.Equal(third, plainBytes) {
		t.Error("answers share memory")
	}
}

func TestRobot(t *testing.T) {
	robots := map[int]bool{1: true, 3: true, 9: true, 13: true, 15: true}
	for kind := -20; kind <= 300; kind++ {
		if got := msg.Robot(kind); got != robots[kind] {
			t.Errorf("Robot(%d) = %t", kind, got)
		}
	}
	for _, kind := range []int{math.MinInt, math.MinInt + 1, 1<<32 + 1, math.MaxInt} {
		if msg.Robot(kind) {
			t.Errorf("Robot(%d)", kind)
		}
	}
}

func TestName(t *testing.T) {
	words := []string{"", "hello", "welcome", "request", "grant", "queued", "busy", "deny", "arrived",
		"entered", "rideok", "reject", "exit", "exited", "exitok", "renew", "evict"}
	for kind := -20; kind <= 300; kind++ {
		want := ""
		if kind > 0 && kind < len(words) {
			want = words[kind]
		}
		if got := msg.Name(kind); got != want {
			t.Errorf("Name(%d) = %q, want %q", kind, got, want)
		}
	}
	for _, kind := range []int{math.MinInt, 1<<32 + 1, math.MaxInt} {
		if got := msg.Name(kind); got != "" {
			t.Errorf("Name(%d) = %q", kind, got)
		}
	}
}
