package net_test

import (
	"bytes"
	"math"
	"math/rand"
	"testing"

	"liftwell/net"
)

// filled is a net of ends with room, with the texts on the way to an end.
func filled(t *testing.T, ends, room, to int, texts ...string) *net.Net {
	t.Helper()
	n := net.New(ends, room)
	for _, text := range texts {
		if !n.Put(to, []byte(text)) {
			t.Fatalf("Put of %q", text)
		}
	}
	return n
}

// expect takes all that is on the way to an end, the first one first.
func expect(t *testing.T, n *net.Net, to int, texts ...string) {
	t.Helper()
	if n.Len(to) != len(texts) {
		t.Fatalf("Len(%d) = %d, want %d", to, n.Len(to), len(texts))
	}
	for i, text := range texts {
		b, ok := n.Take(to, 0)
		if !ok || string(b) != text || n.Len(to) != len(texts)-i-1 {
			t.Fatalf("datagram %d to %d: %q %t, Len %d, want %q", i, to, b, ok, n.Len(to), text)
		}
	}
	if b, ok := n.Take(to, 0); ok || b != nil {
		t.Fatalf("Take of nothing: %q %t", b, ok)
	}
}

func TestChapter(t *testing.T) {
	n := net.New(2, 2)
	if !n.Put(1, []byte("datagram")) || !n.Twin(1, 0) {
		t.Error("Put or Twin")
	}
	expect(t, n, 1, "datagram", "datagram")
}

func TestNilNet(t *testing.T) {
	var n *net.Net
	if n.Put(0, nil) || n.Put(0, []byte("x")) || n.Len(0) != 0 || n.Lose(0, 0) || n.Twin(0, 0) {
		t.Error("a nil *Net does something")
	}
	if b, ok := n.Take(0, 0); ok || b != nil {
		t.Errorf("Take %q %t", b, ok)
	}
}

func TestEndsAndRoom(t *testing.T) {
	for _, x := range []struct{ ends, room, to, fits int }{
		{3, 2, 0, 2}, {3, 2, 1, 2}, {3, 2, 2, 2}, {3, 2, 3, 0}, {3, 2, 4, 0}, {3, 2, -1, 0}, {3, 2, math.MinInt, 0}, {3, 2, math.MaxInt, 0},
		{1, 1, 0, 1}, {1, 1, 1, 0}, {0, 5, 0, 0}, {0, 5, -1, 0}, {-1, 5, 0, 0}, {-1, 5, -1, 0}, {-5, 5, -3, 0}, {math.MinInt, 5, -1, 0},
		{3, 0, 1, 0}, {3, -1, 1, 0}, {3, math.MinInt, 1, 0}, {-1, -1, 0, 0},
		{math.MaxInt, math.MaxInt, math.MaxInt - 1, 9}, {math.MaxInt, math.MaxInt, math.MaxInt, 0}, {1 << 40, 7, 1 << 39, 7},
	} {
		n := net.New(x.ends, x.room)
		for i := range 9 {
			if got := n.Put(x.to, []byte{byte(i)}); got != (i < x.fits) {
				t.Errorf("%+v: Put %d is %t", x, i, got)
			}
			if got := n.Len(x.to); got != min(i+1, x.fits) {
				t.Errorf("%+v: Len %d behind Put %d", x, got, i)
			}
		}
	}
}

func TestWaysAreApart(t *testing.T) {
	n := net.New(3, 2)
	for _, text := range []string{"a", "b"} {
		n.Put(0, []byte(text+"0"))
		n.Put(2, []byte(text+"2"))
	}
	if n.Put(0, []byte("c")) || n.Put(2, []byte("c")) || n.Len(1) != 0 || !n.Put(1, []byte("only")) {
		t.Error("one way's room is another one's")
	}
	expect(t, n, 2, "a2", "b2")
	expect(t, n, 0, "a0", "b0")
	expect(t, n, 1, "only")
	if !n.Put(0, []byte("again")) {
		t.Error("no room again")
	}
	expect(t, n, 0, "again")
}

func TestEmptyDatagram(t *testing.T) {
	n := net.New(1, 3)
	if !n.Put(0, nil) || !n.Put(0, []byte{}) || !n.Put(0, []byte("x")) || n.Put(0, nil) {
		t.Error("Put")
	}
	expect(t, n, 0, "", "", "x")
}

func TestTake(t *testing.T) {
	for _, x := range []struct {
		k    int
		want string
		rest []string
	}{
		{0, "a", []string{"b", "c", "d"}}, {1, "b", []string{"a", "c", "d"}}, {2, "c", []string{"a", "b", "d"}}, {3, "d", []string{"a", "b", "c"}},
	} {
		n := filled(t, 2, 4, 1, "a", "b", "c", "d")
		if b, ok := n.Take(1, x.k); !ok || string(b) != x.want {
			t.Errorf("Take(1, %d) = %q %t", x.k, b, ok)
		}
		expect(t, n, 1, x.rest...)
		n = filled(t, 2, 4, 1, "a", "b", "c", "d")
		if !n.Lose(1, x.k) {
			t.Errorf("Lose(1, %d)", x.k)
		}
		expect(t, n, 1, x.rest...)
		n = filled(t, 2, 5, 1, "a", "b", "c", "d")
		if !n.Twin(1, x.k) {
			t.Errorf("Twin(1, %d)", x.k)
		}
		expect(t, n, 1, "a", "b", "c", "d", x.want)
	}
}

func TestNoneThere(t *testing.T) {
	n := filled(t, 3, 4, 1, "a", "b")
	for _, to := range []int{-1, 0, 1, 2, 3, math.MinInt, math.MaxInt} {
		for _, k := range []int{math.MinInt, -2, -1, 0, 1, 2, 3, 4, math.MaxInt} {
			if to == 1 && (k == 0 || k == 1) {
				continue
			}
			if b, ok := n.Take(to, k); ok || b != nil {
				t.Errorf("Take(%d, %d) = %q %t", to, k, b, ok)
			}
			if n.Lose(to, k) || n.Twin(to, k) {
				t.Errorf("Lose or Twin(%d, %d)", to, k)
			}
		}
	}
	expect(t, n, 1, "a", "b")
}

func TestTwinOnAFullWay(t *testing.T) {
	n := filled(t, 2, 3, 0, "a", "b", "c")
	for k := range 3 {
		if n.Twin(0, k) {
			t.Errorf("Twin(0, %d) on a full way", k)
		}
	}
	n.Lose(0, 1)
	if !n.Twin(0, 0) || n.Twin(0, 0) {
		t.Error("Twin with room for one")
	}
	expect(t, n, 0, "a", "c", "a")
}

func TestMemory(t *testing.T) {
	n := net.New(1, 9)
	room := []byte("abcdef")
	n.Put(0, room[:3])
	n.Put(0, room[:3])
	n.Twin(0, 0)
	n.Twin(0, 2)
	if string(room) != "abcdef" {
		t.Errorf("Put changed what was handed in: %q", room)
	}
	for i := range room {
		room[i] = 'x'
	}
	first, _ := n.Take(0, 0)
	if string(first) != "abc" {
		t.Errorf("first %q", first)
	}
	for i := range first[:cap(first)] {
		first[:cap(first)][i] = 'y'
	}
	expect(t, n, 0, "abc", "abc", "abc")
	// A twin shares nothing with what was taken, nor with its own twin.
	n.Put(0, []byte("twin"))
	n.Twin(0, 0)
	n.Twin(0, 0)
	a, _ := n.Take(0, 0)
	b, _ := n.Take(0, 1)
	for i := range a {
		a[i], b[i] = 'y', 'z'
	}
	if string(a) != "yyyy" || string(b) != "zzzz" {
		t.Errorf("answers share memory: %q %q", a, b)
	}
	expect(t, n, 0, "twin")
}

func TestDrawnAgainstModel(t *testing.T) {
	for seed := range 100 {
		r := rand.New(rand.NewSource(int64(seed)))
		ends, room := r.Intn(5), r.Intn(6)
		n, model := net.New(ends, room), make([][][]byte, 5)
		for step := range 300 {
			to, k := r.Intn(ends+2)-1, r.Intn(7)-1
			is := to >= 0 && to < ends
			there := is && k >= 0 && k < len(model[to])
			fits := is && len(model[to]) < room
			switch r.Intn(5) {
			case 0, 1:
				b := []byte{byte(step), byte(step >> 8)}
				if got := n.Put(to, b); got != fits {
					t.Fatalf("seed %d: Put(%d) = %t", seed, to, got)
				}
				if fits {
					model[to] = append(model[to], b)
				}
			case 2:
				b, ok := n.Take(to, k)
				if ok != there || there && !bytes.Equal(b, model[to][k]) {
					t.Fatalf("seed %d: Take(%d, %d) = %x %t", seed, to, k, b, ok)
				}
				if there {
					model[to] = append(model[to][:k:k], model[to][k+1:]...)
				}
			case 3:
				if got := n.Lose(to, k); got != there {
					t.Fatalf("seed %d: Lose(%d, %d) = %t", seed, to, k, got)
				}
				if there {
					model[to] = append(model[to][:k:k], model[to][k+1:]...)
				}
			case 4:
				if got := n.Twin(to, k); got != (there && fits) {
					t.Fatalf("seed %d: Twin(%d, %d) = %t", seed, to, k, got)
				}
				if there && fits {
					model[to] = append(model[to], model[to][k])
				}
			}
			if is && n.Len(to) != len(model[to]) || !is && n.Len(to) != 0 {
				t.Fatalf("seed %d: Len(%d) = %d", seed, to, n.Len(to))
			}
		}
		for to := range ends {
			var texts []string
			for _, b := range model[to] {
				texts = append(texts, string(b))
			}
			expect(t, n, to, texts...)
		}
	}
}
