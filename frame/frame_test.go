package frame_test

import (
	"bytes"
	"hash/crc32"
	"math/rand"
	"testing"

	"liftwell/frame"
)

// framed is a frame by the chapter's words; any count, too, that no frame has.
func framed(payload []byte) []byte {
	b := append([]byte{0xa5, byte(len(payload))}, payload...)
	sum := crc32.ChecksumIEEE(b)
	return append(b, byte(sum>>24), byte(sum>>16), byte(sum>>8), byte(sum))
}

func run(n int) []byte {
	b := make([]byte, n)
	for i := range b {
		b[i] = byte(i*7 + 3)
	}
	return b
}

func join(parts ...[]byte) []byte {
	return bytes.Join(parts, nil)
}

// model is a stream that goes through all that waits, anew each time.
type model struct{ waits []byte }

func (m *model) next() ([]byte, bool) {
	for len(m.waits) > 0 {
		w := m.waits
		if w[0] != 0xa5 || len(w) > 1 && (w[1] == 0 || w[1] > 64) {
			m.waits = w[1:]
			continue
		}
		if len(w) < 2 || len(w) < 6+int(w[1]) {
			return nil, false
		}
		n := int(w[1])
		if !bytes.Equal(framed(w[2:2+n]), w[:6+n]) {
			m.waits = w[1:]
			continue
		}
		m.waits = w[6+n:]
		return w[2 : 2+n], true
	}
	return nil, false
}

// same goes on with Next on both sides till there is none.
func same(t *testing.T, s *frame.Stream, m *model) int {
	t.Helper()
	for found := 0; ; found++ {
		if s.Held() != len(m.waits) {
			t.Fatalf("Held %d, want %d (%x)", s.Held(), len(m.waits), m.waits)
		}
		was := bytes.Clone(m.waits)
		got, ok := s.Next()
		want, is := m.next()
		if ok != is || !bytes.Equal(got, want) || s.Held() != len(m.waits) {
			t.Fatalf("of %x Next %x %t, Held %d, want %x %t, %d", was, got, ok, s.Held(), want, is, len(m.waits))
		}
		if !ok {
			return found
		}
	}
}

func TestChapter(t *testing.T) {
	s := new(frame.Stream)
	s.Feed(join([]byte{0}, framed([]byte("hello"))))
	if s.Held() != 12 {
		t.Errorf("Held %d ahead of Next", s.Held())
	}
	got, ok := s.Next()
	if !ok || string(got) != "hello" || s.Held() != 0 {
		t.Errorf("Next %q %t, Held %d", got, ok, s.Held())
	}
}

func TestPut(t *testing.T) {
	for n := 1; n <= 64; n++ {
		payload := run(n)
		got, ok := frame.Put(payload)
		if !ok || !bytes.Equal(got, framed(payload)) {
			t.Errorf("Put of %d: %x %t", n, got, ok)
		}
	}
	got, ok := frame.Put([]byte{7})
	if want := []byte{0xa5, 1, 7, 0xa7, 0x8d, 0xe2, 0x7b}; !ok || !bytes.Equal(got, want) {
		t.Errorf("Put of 7: %x %t", got, ok)
	}
	for _, b := range [][]byte{nil, {}, run(65), run(66), run(255), run(256), run(257), run(256 + 5), run(1000)} {
		if got, ok := frame.Put(b); ok || len(got) != 0 {
			t.Errorf("Put of %d: %x %t", len(b), got, ok)
		}
	}
}

func TestPutIsNewMemory(t *testing.T) {
	room := run(20)
	before := bytes.Clone(room)
	first, _ := frame.Put(room[:5])
	again, _ := frame.Put(room[:5])
	if !bytes.Equal(room, before) {
		t.Errorf("Put changed what was handed in: %x", room)
	}
	for i := range first[:cap(first)] {
		first[:cap(first)][i] ^= 255
	}
	if !bytes.Equal(room, before) {
		t.Error("an answer shares memory with what was handed in")
	}
	for i := range room {
		room[i] ^= 255
	}
	if !bytes.Equal(again, framed(before[:5])) {
		t.Error("an answer shares memory")
	}
}

func TestStreamIsEmpty(t *testing.T) {
	s := new(frame.Stream)
	for range 2 {
		if got, ok := s.Next(); ok || len(got) != 0 || s.Held() != 0 {
			t.Errorf("Next %x %t, Held %d", got, ok, s.Held())
		}
		s.Feed(nil)
		s.Feed([]byte{})
	}
}

func TestNilStream(t *testing.T) {
	var s *frame.Stream
	s.Feed(framed([]byte("x")))
	s.Feed(nil)
	if got, ok := s.Next(); ok || got != nil || s.Held() != 0 {
		t.Errorf("Next %x %t, Held %d", got, ok, s.Held())
	}
}

// streams are bytes of every sort, with how many frames they have.
func streams() map[string]struct {
	b     []byte
	found int
} {
	type row = struct {
		b     []byte
		found int
	}
	list := map[string]row{}
	for _, n := range []int{1, 2, 63, 64} {
		list["alone "+string(rune('0'+n%10))] = row{framed(run(n)), 1}
	}
	one, two := framed([]byte("one")), framed([]byte{0xa5})
	list["several"] = row{join(one, two, framed(run(64)), one), 4}
	list["behind garbage"] = row{join([]byte("garbage"), one), 1}
	list["garbage with marks"] = row{join([]byte{0xa5, 0, 0xa5, 0xa5, 65, 0xa5, 255, 0xa5}, one, []byte{0xa5}, two), 2}
	list["a mark that takes a frame in"] = row{join([]byte{0xa5, 3}, one, two), 2}
	list["a mark alone"] = row{[]byte{0xa5}, 0}
	list["a mark and a count"] = row{[]byte{0xa5, 64}, 0}
	list["count 0"] = row{join(framed(nil), one), 1}
	list["count 65"] = row{join(framed(run(65)), one), 1}
	list["count 255"] = row{join(framed(run(255)), one), 1}
	list["count 255 at the end"] = row{framed(run(255)), 0}
	list["frame in a payload"] = row{join(framed(one), two), 2}
	broken := framed(one)
	broken[1]++
	list["frame in a broken one"] = row{join(broken, two), 2}
	for i := range one {
		turned := bytes.Clone(one)
		turned[i] ^= 0x10
		list["turned at "+string(rune('0'+i))] = row{join(turned, two, run(80)), 1}
		list["cut to "+string(rune('0'+i))] = row{join(one[:i], two, run(80)), 1}
		list["cut at the end to "+string(rune('0'+i))] = row{join(two, one[:i]), 1}
	}
	return list
}

func TestNext(t *testing.T) {
	for name, x := range streams() {
		s, m := new(frame.Stream), new(model)
		s.Feed(x.b)
		m.waits = bytes.Clone(x.b)
		if found := same(t, s, m); found != x.found {
			t.Errorf("%s: %d frames, want %d", name, found, x.found)
		}
	}
}

func TestHeldOfWhatIsNotAllThere(t *testing.T) {
	one := framed([]byte("one"))
	for i := 1; i < len(one); i++ {
		s := new(frame.Stream)
		s.Feed(join([]byte{1, 0xa5, 0}, one[:i]))
		for range 2 {
			if got, ok := s.Next(); ok || got != nil || s.Held() != i {
				t.Errorf("of %d bytes of a frame: %x %t, Held %d", i, got, ok, s.Held())
			}
		}
		s.Feed(one[i:])
		if got, ok := s.Next(); !ok || string(got) != "one" || s.Held() != 0 {
			t.Errorf("parted at %d: %q %t, Held %d", i, got, ok, s.Held())
		}
	}
}

func TestNextLeavesTheRestAlone(t *testing.T) {
	s := new(frame.Stream)
	rest := join([]byte{9, 9, 9}, framed([]byte("b")), []byte{8, 8})
	s.Feed(join(framed([]byte("a")), rest))
	if got, ok := s.Next(); !ok || string(got) != "a" || s.Held() != len(rest) {
		t.Errorf("%q %t, Held %d, want %d", got, ok, s.Held(), len(rest))
	}
	if got, ok := s.Next(); !ok || string(got) != "b" || s.Held() != 2 {
		t.Errorf("%q %t, Held %d, want 2", got, ok, s.Held())
	}
	if got, ok := s.Next(); ok || got != nil || s.Held() != 0 {
		t.Errorf("%q %t, Held %d, want 0", got, ok, s.Held())
	}
}

// payloads are all of what Next finds, each as a text.
func payloads(s *frame.Stream) []string {
	var list []string
	for got, ok := s.Next(); ok; got, ok = s.Next() {
		list = append(list, string(got))
	}
	return list
}

func equal(a, b []string) bool {
	if len(a) != len(b) {
		return false
	}
	for i := range a {
		if a[i] != b[i] {
			return false
		}
	}
	return true
}

func TestPartedInTwo(t *testing.T) {
	for name, x := range streams() {
		whole := new(frame.Stream)
		whole.Feed(x.b)
		want := payloads(whole)
		for cut := 0; cut <= len(x.b); cut++ {
			for _, between := range []bool{false, true} {
				s := new(frame.Stream)
				var got []string
				s.Feed(x.b[:cut])
				if between {
					got = payloads(s)
				}
				s.Feed(x.b[cut:])
				got = append(got, payloads(s)...)
				if !equal(got, want) || s.Held() != whole.Held() {
					t.Fatalf("%s parted at %d: %q, Held %d, want %q, %d", name, cut, got, s.Held(), want, whole.Held())
				}
			}
		}
	}
}

func TestByteByByte(t *testing.T) {
	for _, x := range streams() {
		s, m := new(frame.Stream), new(model)
		for i := range x.b {
			s.Feed(x.b[i : i+1])
			m.waits = append(bytes.Clone(m.waits), x.b[i])
			same(t, s, m)
		}
	}
}

// drawn is a stream of frames, broken frames and garbage, with many marks and small counts.
func drawn(r *rand.Rand) []byte {
	var b []byte
	for range r.Intn(8) {
		payload := make([]byte, 1+r.Intn(5)*r.Intn(14))
		r.Read(payload)
		f := framed(payload)
		switch r.Intn(5) {
		case 0:
			f[r.Intn(len(f))] ^= 1 << r.Intn(8)
		case 1:
			f = f[:r.Intn(len(f))]
		case 2:
			for range r.Intn(6) {
				b = append(b, []byte{0xa5, 0xa5, 1, 2, 64, 65, 0, 7}[r.Intn(8)])
			}
		}
		b = append(b, f...)
	}
	return b
}

func TestDrawn(t *testing.T) {
	r := rand.New(rand.NewSource(5))
	for range 3000 {
		b := drawn(r)
		s, m := new(frame.Stream), new(model)
		for len(b) > 0 {
			n := 1 + r.Intn(len(b))
			s.Feed(b[:n])
			m.waits = append(bytes.Clone(m.waits), b[:n]...)
			b = b[n:]
			if r.Intn(3) > 0 {
				same(t, s, m)
			}
		}
		same(t, s, m)
	}
}

func TestManyFramesInOneFeed(t *testing.T) {
	var b []byte
	for i := range 40000 {
		b = append(b, framed([]byte{byte(i), byte(i >> 8)})...)
	}
	s := new(frame.Stream)
	s.Feed(b)
	for i := range 40000 {
		if got, ok := s.Next(); !ok || !bytes.Equal(got, []byte{byte(i), byte(i >> 8)}) || s.Held() != (39999-i)*8 {
			t.Fatalf("frame %d: %x %t, Held %d", i, got, ok, s.Held())
		}
	}
}

func TestStreamKeepsNothingHandedIn(t *testing.T) {
	room := join(framed([]byte("abc")), framed([]byte("def")), make([]byte, 40))
	before := bytes.Clone(room)
	s := new(frame.Stream)
	s.Feed(room[:18])
	s.Feed(nil)
	s.Feed(framed([]byte("ghi")))
	if !bytes.Equal(room, before) {
		t.Errorf("Feed changed what was handed in: %x", room)
	}
	for i := range room {
		room[i] = 0
	}
	if got := payloads(s); !equal(got, []string{"abc", "def", "ghi"}) {
		t.Errorf("payloads %q", got)
	}
}

func TestAnswersShareNothing(t *testing.T) {
	s := new(frame.Stream)
	s.Feed(join(framed([]byte("abc")), framed([]byte("def"))))
	first, _ := s.Next()
	// All room of the answer is written to, as far as it goes.
	for i := range first[:cap(first)] {
		first[:cap(first)][i] = 0
	}
	s.Feed(framed([]byte("ghi")))
	second, _ := s.Next()
	if string(second) != "def" {
		t.Errorf("second %q", second)
	}
	s.Feed(framed([]byte("jkl")))
	if got := payloads(s); !equal(got, []string{"ghi", "jkl"}) || string(second) != "def" {
		t.Errorf("payloads %q, second %q", got, second)
	}
}

func TestStreamsAreApart(t *testing.T) {
	a, b := new(frame.Stream), new(frame.Stream)
	a.Feed(framed([]byte("a")))
	if b.Held() != 0 || len(payloads(b)) != 0 || !equal(payloads(a), []string{"a"}) {
		t.Error("one stream has what another one was fed")
	}
}
