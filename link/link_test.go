package link_test

import (
	"fmt"
	"math"
	"math/rand"
	"testing"

	"liftwell/api"
	"liftwell/link"
)

const top = api.MaxTime

// usual is a setting with numbers that can't be taken for one another.
func usual() api.Config {
	return api.Config{Retry: 3, Cap: 20, Dead: 1000, Tries: 4, Window: 4}
}

func word(n int) api.Msg {
	return api.Msg{Kind: 1 + n%16, A: n, B: 2 * n, C: 7}
}

func with(seq, ack int, m api.Msg) api.Packet {
	return api.Packet{Session: 7, Epoch: 5, Seq: seq, Ack: ack, Has: true, Msg: m}
}

func without(seq, ack int) api.Packet {
	return api.Packet{Session: 7, Epoch: 5, Seq: seq, Ack: ack}
}

func expectPoll(t *testing.T, l *link.Link, now int, want api.Packet, is bool) {
	t.Helper()
	if got, ok := l.Poll(now); ok != is || got != want {
		t.Fatalf("Poll(%d) = %+v %t, want %+v %t", now, got, ok, want, is)
	}
}

func expectNone(t *testing.T, l *link.Link, now int) {
	t.Helper()
	expectPoll(t, l, now, api.Packet{}, false)
}

func expectRecv(t *testing.T, l *link.Link, p api.Packet, now int, want api.Msg, is bool) {
	t.Helper()
	if got, ok := l.Recv(p, now); ok != is || got != want {
		t.Fatalf("Recv(%+v, %d) = %+v %t, want %+v %t", p, now, got, ok, want, is)
	}
}

func expectDead(t *testing.T, l *link.Link, now int, want bool) {
	t.Helper()
	if got := l.Dead(now); got != want {
		t.Fatalf("Dead(%d) = %t", now, got)
	}
}

func TestChapter(t *testing.T) {
	l := link.New(usual(), 7, 5, 0)
	l.Send(word(1))
	expectPoll(t, l, 0, with(0, 0, word(1)), true)
	expectNone(t, l, 0)
}

func TestNilLink(t *testing.T) {
	var l *link.Link
	if l.Send(word(1)) || l.Epoch() != 0 || l.Waits() != 0 {
		t.Error("Send, Epoch or Waits")
	}
	expectNone(t, l, 3)
	expectRecv(t, l, api.Packet{}, 0, api.Msg{}, false)
	expectRecv(t, l, with(0, 0, word(1)), 0, api.Msg{}, false)
	for _, now := range []int{math.MinInt, 0, math.MaxInt} {
		expectDead(t, l, now, true)
	}
}

func TestNew(t *testing.T) {
	for _, x := range []struct{ epoch, want int }{
		{0, 0}, {1, 1}, {65535, 65535}, {65536, 0}, {65537, 1}, {131073, 1}, {-1, 65535}, {-65536, 0}, {-65535, 1},
		{math.MaxInt, 65535}, {math.MinInt, 0}, {math.MinInt + 3, 3},
	} {
		l := link.New(usual(), 7, x.epoch, 0)
		if l.Epoch() != x.want || l.Waits() != 0 {
			t.Errorf("epoch %d: %d, Waits %d", x.epoch, l.Epoch(), l.Waits())
		}
		expectNone(t, l, 0)
		l.Send(word(1))
		expectPoll(t, l, 0, api.Packet{Session: 7, Epoch: x.want, Has: true, Msg: word(1)}, true)
		expectRecv(t, l, api.Packet{Session: 7, Epoch: x.want, Has: true, Msg: word(2)}, 0, word(2), true)
	}
}

func TestWindow(t *testing.T) {
	for _, x := range []struct{ window, room int }{
		{math.MinInt, 1}, {-1, 1}, {0, 1}, {1, 1}, {2, 2}, {15, 15}, {16, 16}, {17, 16}, {1000, 16}, {math.MaxInt, 16},
	} {
		c := usual()
		c.Window = x.window
		l := link.New(c, 7, 5, 0)
		for i := range 20 {
			if got := l.Send(word(i)); got != (i < x.room) || l.Waits() != min(i+1, x.room) {
				t.Fatalf("Window %d: Send %d is %t, Waits %d", x.window, i, got, l.Waits())
			}
		}
		// What could not be sent is not there; room comes when one has arrived.
		for i := range x.room {
			expectPoll(t, l, 0, with(i, 0, word(i)), true)
			expectRecv(t, l, without(0, i+1), 0, api.Msg{}, false)
			if l.Waits() != x.room-i-1 {
				t.Fatalf("Window %d: Waits %d", x.window, l.Waits())
			}
		}
		expectNone(t, l, 0)
		if !l.Send(word(3)) {
			t.Errorf("Window %d: no room again", x.window)
		}
	}
}

func TestSendIsDueAtOnce(t *testing.T) {
	for _, now := range []int{math.MinInt, -5, 0, 1, 99, top, math.MaxInt} {
		l := link.New(usual(), 7, 5, 50)
		l.Send(word(1))
		expectPoll(t, l, now, with(0, 0, word(1)), true)
	}
}

func TestPauseDoubles(t *testing.T) {
	l := link.New(usual(), 7, 5, 0)
	l.Send(word(1))
	now := 100
	for _, pause := range []int{3, 6, 12, 20, 20, 20} {
		expectPoll(t, l, now, with(0, 0, word(1)), true)
		for n := now - 2; n < now+pause; n++ {
			expectNone(t, l, n)
		}
		now += pause
	}
	// Behind the due time it goes on from when it was sent.
	expectPoll(t, l, now+50, with(0, 0, word(1)), true)
	expectNone(t, l, now+69)
	expectPoll(t, l, now+70, with(0, 0, word(1)), true)
}

func TestPauseOfOddSettings(t *testing.T) {
	for _, x := range []struct{ retry, most, pause int }{
		{0, 20, 0}, {-3, 20, 0}, {5, 0, 0}, {5, -1, 0}, {5, 3, 3}, {math.MinInt, math.MaxInt, 0},
		{math.MaxInt, math.MaxInt, top}, {7, math.MaxInt, 7}, {math.MaxInt, 9, 9},
	} {
		c := usual()
		c.Retry, c.Cap = x.retry, x.most
		l := link.New(c, 7, 5, 0)
		l.Send(word(1))
		expectPoll(t, l, 0, with(0, 0, word(1)), true)
		if x.pause > 0 {
			expectNone(t, l, 0)
			expectNone(t, l, x.pause-1)
		}
		expectPoll(t, l, x.pause, with(0, 0, word(1)), true)
	}
}

func TestPollOfTimesBeyond(t *testing.T) {
	l := link.New(usual(), 7, 5, 0)
	l.Send(word(1))
	expectPoll(t, l, -100, with(0, 0, word(1)), true)
	expectNone(t, l, 2)
	expectPoll(t, l, 3, with(0, 0, word(1)), true)
	expectPoll(t, l, math.MaxInt, with(0, 0, word(1)), true)
	expectNone(t, l, top-1)
	expectPoll(t, l, top, with(0, 0, word(1)), true)
	expectPoll(t, l, math.MaxInt, with(0, 0, word(1)), true)
}

func TestNextMessageBeginsAnew(t *testing.T) {
	l := link.New(usual(), 7, 5, 0)
	l.Send(word(1))
	l.Send(word(2))
	expectPoll(t, l, 0, with(0, 0, word(1)), true)
	expectPoll(t, l, 3, with(0, 0, word(1)), true)
	expectRecv(t, l, without(0, 1), 4, api.Msg{}, false)
	// At once, though the one ahead was due at 9; and its pauses are the shortest again.
	expectPoll(t, l, 4, with(1, 0, word(2)), true)
	expectNone(t, l, 6)
	expectPoll(t, l, 7, with(1, 0, word(2)), true)
	expectRecv(t, l, without(0, 2), 8, api.Msg{}, false)
	expectNone(t, l, 100)
	l.Send(word(3))
	expectPoll(t, l, 8, with(2, 0, word(3)), true)
	expectNone(t, l, 10)
	expectPoll(t, l, 11, with(2, 0, word(3)), true)
}

func TestRecvOfAnother(t *testing.T) {
	l := link.New(usual(), 7, 5, 0)
	l.Send(word(1))
	expectPoll(t, l, 0, with(0, 0, word(1)), true)
	for _, change := range []func(p *api.Packet){
		func(p *api.Packet) { p.Session = 6 }, func(p *api.Packet) { p.Session = 8 }, func(p *api.Packet) { p.Session = 0 },
		func(p *api.Packet) { p.Epoch = 4 }, func(p *api.Packet) { p.Epoch = 6 }, func(p *api.Packet) { p.Epoch = 0 },
		func(p *api.Packet) { p.Session, p.Epoch = 5, 7 },
	} {
		p := with(0, 1, word(9))
		change(&p)
		expectRecv(t, l, p, 500, api.Msg{}, false)
		if l.Waits() != 1 {
			t.Errorf("%+v: Waits %d", p, l.Waits())
		}
		expectNone(t, l, 2)
		expectDead(t, l, 999, false)
		expectDead(t, l, 1000, true)
	}
	expectRecv(t, l, with(0, 1, word(9)), 500, word(9), true)
	expectDead(t, l, 1499, false)
	expectDead(t, l, 1500, true)
}

func TestRecvInOrder(t *testing.T) {
	l := link.New(usual(), 7, 5, 0)
	expectRecv(t, l, with(0, 0, word(1)), 1, word(1), true)
	expectPoll(t, l, 1, without(0, 1), true)
	expectNone(t, l, 1)
	// The same one again: an answer, and nothing else.
	expectRecv(t, l, with(0, 0, word(1)), 2, api.Msg{}, false)
	expectPoll(t, l, 2, without(0, 1), true)
	expectNone(t, l, 2)
	// One ahead of what is wanted: no answer.
	expectRecv(t, l, with(2, 0, word(3)), 3, api.Msg{}, false)
	expectNone(t, l, 3)
	expectRecv(t, l, with(1, 0, word(2)), 4, word(2), true)
	expectRecv(t, l, with(2, 0, word(3)), 5, word(3), true)
	expectPoll(t, l, 5, without(0, 3), true)
	expectNone(t, l, 5)
	// Two that are due are one answer.
	expectRecv(t, l, with(1, 0, word(2)), 6, api.Msg{}, false)
	expectRecv(t, l, with(0, 0, word(1)), 6, api.Msg{}, false)
	expectPoll(t, l, 6, without(0, 3), true)
	expectNone(t, l, 6)
}

func TestWhatIsAnswered(t *testing.T) {
	for _, x := range []struct {
		seq    int
		answer bool
	}{
		{1, false}, {2, false}, {32766, false}, {32767, false}, {32768, true}, {32769, true}, {65534, true}, {65535, true}, {0, true},
	} {
		l := link.New(usual(), 7, 5, 0)
		got, ok := l.Recv(with(x.seq, 0, word(1)), 0)
		if ok != (x.seq == 0) || ok && got != word(1) {
			t.Errorf("Seq %d: %+v %t", x.seq, got, ok)
		}
		if _, ok := l.Poll(0); ok != x.answer {
			t.Errorf("Seq %d: answer %t", x.seq, ok)
		}
	}
}

func TestPacketWithoutMessageIsNotAnswered(t *testing.T) {
	l := link.New(usual(), 7, 5, 0)
	expectRecv(t, l, without(0, 0), 1, api.Msg{}, false)
	expectRecv(t, l, without(65535, 9), 1, api.Msg{}, false)
	expectNone(t, l, 1)
	expectRecv(t, l, with(0, 0, word(1)), 1, word(1), true)
	expectRecv(t, l, without(1, 0), 1, api.Msg{}, false)
	expectPoll(t, l, 1, without(0, 1), true)
}

func TestMessageAnswersToo(t *testing.T) {
	l := link.New(usual(), 7, 5, 0)
	expectRecv(t, l, with(0, 0, word(1)), 1, word(1), true)
	l.Send(word(8))
	expectPoll(t, l, 1, with(0, 1, word(8)), true)
	expectNone(t, l, 1)
	// While the message is not due, an answer goes alone, with its number.
	expectRecv(t, l, with(1, 0, word(2)), 2, word(2), true)
	expectPoll(t, l, 2, without(0, 2), true)
	expectNone(t, l, 3)
	expectPoll(t, l, 4, with(0, 2, word(8)), true)
}

func TestAckThatDoesNotFit(t *testing.T) {
	for _, ack := range []int{0, 2, 3, 65535, 32768} {
		l := link.New(usual(), 7, 5, 0)
		l.Send(word(1))
		l.Send(word(2))
		expectPoll(t, l, 0, with(0, 0, word(1)), true)
		expectRecv(t, l, without(0, ack), 1, api.Msg{}, false)
		if l.Waits() != 2 {
			t.Errorf("Ack %d: Waits %d", ack, l.Waits())
		}
		expectNone(t, l, 2)
		expectPoll(t, l, 3, with(0, 0, word(1)), true)
	}
	// Nothing waits: an Ack that would fit changes no number.
	l := link.New(usual(), 7, 5, 0)
	expectRecv(t, l, without(0, 1), 1, api.Msg{}, false)
	l.Send(word(1))
	expectPoll(t, l, 1, with(0, 0, word(1)), true)
	// An older Ack, again, takes none away.
	l.Send(word(2))
	expectRecv(t, l, without(0, 1), 1, api.Msg{}, false)
	expectRecv(t, l, without(0, 1), 1, api.Msg{}, false)
	if l.Waits() != 1 {
		t.Errorf("Waits %d", l.Waits())
	}
	expectPoll(t, l, 1, with(1, 0, word(2)), true)
}

func TestAckAndMessageTogether(t *testing.T) {
	l := link.New(usual(), 7, 5, 0)
	l.Send(word(1))
	l.Send(word(2))
	expectPoll(t, l, 0, with(0, 0, word(1)), true)
	expectRecv(t, l, with(0, 1, word(5)), 1, word(5), true)
	if l.Waits() != 1 {
		t.Errorf("Waits %d", l.Waits())
	}
	expectPoll(t, l, 1, with(1, 1, word(2)), true)
	expectNone(t, l, 1)
	// An older message's Ack counts as well, and one's that is ahead.
	expectRecv(t, l, with(0, 2, word(5)), 2, api.Msg{}, false)
	if l.Waits() != 0 {
		t.Errorf("Waits %d", l.Waits())
	}
	l.Send(word(3))
	expectPoll(t, l, 2, with(2, 1, word(3)), true)
	expectRecv(t, l, with(9, 3, word(5)), 2, api.Msg{}, false)
	if l.Waits() != 0 {
		t.Errorf("Waits %d", l.Waits())
	}
	expectNone(t, l, 2)
}

func TestDeadByTries(t *testing.T) {
	for _, x := range []struct{ tries, sent int }{{math.MinInt, 1}, {-1, 1}, {0, 1}, {1, 2}, {2, 3}, {5, 6}} {
		c := usual()
		c.Tries, c.Retry, c.Cap = x.tries, 2, 2
		l := link.New(c, 7, 5, 0)
		l.Send(word(1))
		for i := range x.sent {
			expectDead(t, l, 2*i, false)
			expectPoll(t, l, 2*i, with(0, 0, word(1)), true)
			expectDead(t, l, 2*i+1, false)
		}
		expectDead(t, l, 2*x.sent-1, false)
		expectDead(t, l, 2*x.sent, true)
		expectDead(t, l, 2*x.sent+9, true)
		// The next one was not sent yet.
		l.Send(word(2))
		expectRecv(t, l, without(0, 1), 2*x.sent, api.Msg{}, false)
		expectDead(t, l, 2*x.sent, false)
		expectRecv(t, l, without(0, 2), 2*x.sent, api.Msg{}, false)
		expectDead(t, l, 2*x.sent+9, false)
	}
	c := usual()
	c.Tries, c.Retry = math.MaxInt, 0
	l := link.New(c, 7, 5, 0)
	l.Send(word(1))
	for range 100 {
		expectPoll(t, l, 0, with(0, 0, word(1)), true)
	}
	expectDead(t, l, 0, false)
}

func TestDeadBySilence(t *testing.T) {
	for _, x := range []struct{ dead, now, last int }{
		{10, 0, 9}, {10, 5, 14}, {1, 5, 5}, {10, -50, 9}, {10, top - 5, top - 1}, {math.MaxInt, 7, top - 1}, {top, 0, top - 1},
		{10, math.MaxInt, top - 1}, {0, 5, 4}, {-7, 5, 4}, {math.MinInt, 5, 4},
	} {
		c := usual()
		c.Dead = x.dead
		l := link.New(c, 7, 5, x.now)
		expectDead(t, l, x.last, false)
		expectDead(t, l, x.last+1, true)
		expectDead(t, l, math.MaxInt, true)
		expectDead(t, l, math.MinInt, false)
	}
	c := usual()
	c.Dead = 0
	expectDead(t, link.New(c, 7, 5, 0), math.MinInt, true)
}

func TestHeardLast(t *testing.T) {
	c := usual()
	c.Dead = 10
	l := link.New(c, 7, 5, 20)
	expectDead(t, l, 30, true)
	expectRecv(t, l, without(0, 0), 25, api.Msg{}, false)
	expectDead(t, l, 34, false)
	expectDead(t, l, 35, true)
	// What comes with an earlier time takes nothing back.
	expectRecv(t, l, without(0, 0), 22, api.Msg{}, false)
	expectRecv(t, l, without(0, 0), math.MinInt, api.Msg{}, false)
	expectDead(t, l, 34, false)
	expectDead(t, l, 35, true)
	expectRecv(t, l, with(9, 0, word(1)), 26, api.Msg{}, false)
	expectDead(t, l, 35, false)
	expectDead(t, l, 36, true)
	expectRecv(t, l, without(0, 0), math.MaxInt, api.Msg{}, false)
	expectDead(t, l, top-1, false)
	expectDead(t, l, top, true)
}

func TestNumbersGoRound(t *testing.T) {
	l := link.New(usual(), 7, 5, 0)
	for i := range 65536*2 + 5 {
		n := i % 65536
		after := (i + 1) % 65536
		l.Send(word(i))
		expectPoll(t, l, i, with(n, n, word(i)), true)
		expectRecv(t, l, with(n, after, word(i+1)), i, word(i+1), true)
		if i%9973 == 0 || n > 65530 || n < 5 {
			expectPoll(t, l, i, without(after, after), true)
			expectRecv(t, l, with(n, after, word(i+1)), i, api.Msg{}, false)
			expectPoll(t, l, i, without(after, after), true)
			expectRecv(t, l, with((n+2)%65536, after, word(i+1)), i, api.Msg{}, false)
			expectNone(t, l, i)
		}
	}
}

// way is one between two links, on which packets are lost, doubled and turned about.
type way struct {
	r     *rand.Rand
	there []api.Packet
}

func (w *way) put(p api.Packet) {
	for range []int{0, 1, 1, 1, 2}[w.r.Intn(5)] {
		w.there = append(w.there, p)
	}
}

func (w *way) take() (api.Packet, bool) {
	if len(w.there) == 0 || w.r.Intn(3) == 0 {
		return api.Packet{}, false
	}
	k := w.r.Intn(len(w.there))
	p := w.there[k]
	w.there = append(w.there[:k:k], w.there[k+1:]...)
	return p, true
}

func TestTwoLinksTalk(t *testing.T) {
	const messages = 60
	for seed := range 60 {
		r := rand.New(rand.NewSource(int64(seed)))
		c := api.Config{Retry: 1 + r.Intn(4), Cap: 10, Dead: 1 << 30, Tries: 1 << 30, Window: r.Intn(18)}
		ends := [2]*link.Link{link.New(c, 7, 5, 0), link.New(c, 7, 5, 0)}
		ways := [2]*way{{r: r}, {r: r}}
		var sent, got [2]int
		for now := 0; got[0] < messages || got[1] < messages; now++ {
			if now > 100000 {
				t.Fatalf("seed %d: %v of %d came", seed, got, messages)
			}
			for i, l := range ends {
				if sent[i] < messages && l.Send(word(sent[i])) {
					sent[i]++
				}
				if p, ok := l.Poll(now); ok {
					ways[1-i].put(p)
				}
				if p, ok := ways[i].take(); ok {
					if m, ok := l.Recv(p, now); ok {
						if m != word(got[i]) {
							t.Fatalf("seed %d: %+v came, want %+v", seed, m, word(got[i]))
						}
						got[i]++
					}
				}
				if l.Dead(now) {
					t.Fatalf("seed %d: dead at %d", seed, now)
				}
			}
		}
	}
}

// model is a link that goes by the chapter's words, with all times held as they come.
type model struct {
	c            api.Config
	epoch        int
	list         []api.Msg
	done         int // of list: so many wait no more
	tries, due   int
	atOnce       bool
	wanted       int
	answer       bool
	heard        int
	window, most int
}

func between(n, low, high int) int {
	if n < low {
		return low
	}
	if n > high {
		return high
	}
	return n
}

func (m *model) ready(now int) bool {
	return m.done < len(m.list) && (m.atOnce || between(now, 0, top) >= m.due)
}

func (m *model) poll(now int) string {
	p := api.Packet{Session: 7, Epoch: m.epoch, Seq: m.done % 65536, Ack: m.wanted % 65536}
	if m.ready(now) {
		p.Has, p.Msg = true, m.list[m.done]
		pause := between(m.c.Retry, 0, top)
		for range m.tries {
			pause = between(2*pause, 0, top)
		}
		m.due = between(between(now, 0, top)+min(pause, between(m.c.Cap, 0, top)), 0, top)
		m.atOnce = false
		m.tries++
		m.answer = false
		return fmt.Sprint(p, true)
	}
	if m.answer {
		m.answer = false
		return fmt.Sprint(p, true)
	}
	return fmt.Sprint(api.Packet{}, false)
}

func (m *model) recv(p api.Packet, now int) string {
	if p.Session != 7 || p.Epoch != m.epoch {
		return fmt.Sprint(api.Msg{}, false)
	}
	if now > m.heard {
		m.heard = between(now, 0, top)
	}
	if m.done < len(m.list) && p.Ack == (m.done+1)%65536 {
		m.done++
		m.tries, m.atOnce = 0, true
	}
	if p.Has {
		ahead := (p.Seq - m.wanted%65536 + 65536) % 65536
		if ahead == 0 || ahead >= 32768 {
			m.answer = true
		}
		if ahead == 0 {
			m.wanted++
			return fmt.Sprint(p.Msg, true)
		}
	}
	return fmt.Sprint(api.Msg{}, false)
}

func (m *model) dead(now int) bool {
	now = between(now, 0, top)
	return m.ready(now) && m.tries > m.most || now >= between(m.heard+between(m.c.Dead, 0, top), 0, top)
}

func drawnTime(r *rand.Rand, about int) int {
	if r.Intn(40) == 0 {
		return []int{math.MinInt, -1, 0, top - 1, top, top + 5, math.MaxInt}[r.Intn(7)]
	}
	return about + r.Intn(4)
}

func TestDrawnAgainstModel(t *testing.T) {
	for seed := range 400 {
		r := rand.New(rand.NewSource(int64(seed)))
		c := api.Config{Retry: r.Intn(6) - 1, Cap: r.Intn(30) - 1, Dead: r.Intn(60), Tries: r.Intn(7) - 1, Window: r.Intn(20) - 1}
		l := link.New(c, 7, 5, 10)
		m := &model{c: c, epoch: 5, heard: 10, atOnce: true, window: between(c.Window, 1, 16), most: between(c.Tries, 0, top)}
		for now := 10; now < 250; now++ {
			at := drawnTime(r, now)
			switch r.Intn(4) {
			case 0:
				msg := word(r.Intn(100))
				room := len(m.list)-m.done < m.window
				if got := l.Send(msg); got != room {
					t.Fatalf("seed %d: Send %t", seed, got)
				}
				if room {
					if m.done == len(m.list) {
						m.tries, m.atOnce = 0, true
					}
					m.list = append(m.list, msg)
				}
			case 1:
				p, ok := l.Poll(at)
				if got, want := fmt.Sprint(p, ok), m.poll(at); got != want {
					t.Fatalf("seed %d: Poll(%d) = %s, want %s", seed, at, got, want)
				}
			case 2:
				p := api.Packet{Session: 7, Epoch: 5, Seq: (m.wanted + r.Intn(4) - 2 + 65536) % 65536, Ack: (m.done + r.Intn(3)) % 65536}
				if p.Has = r.Intn(3) > 0; p.Has {
					p.Msg = word(r.Intn(100))
				}
				if r.Intn(10) == 0 {
					p.Epoch = 4 + r.Intn(3)
				}
				msg, ok := l.Recv(p, at)
				if got, want := fmt.Sprint(msg, ok), m.recv(p, at); got != want {
					t.Fatalf("seed %d: Recv(%+v, %d) = %s, want %s", seed, p, at, got, want)
				}
			}
			if l.Waits() != len(m.list)-m.done || l.Epoch() != 5 {
				t.Fatalf("seed %d: Waits %d", seed, l.Waits())
			}
			for _, n := range []int{at, now + 5} {
				if got, want := l.Dead(n), m.dead(n); got != want {
					t.Fatalf("seed %d: Dead(%d) = %t", seed, n, got)
				}
			}
		}
	}
}

func TestLinksAreApart(t *testing.T) {
	a, b := link.New(usual(), 7, 5, 0), link.New(usual(), 7, 5, 0)
	a.Send(word(1))
	if b.Waits() != 0 {
		t.Error("one link has what another one was given")
	}
	expectNone(t, b, 0)
	expectPoll(t, a, 0, with(0, 0, word(1)), true)
}
