package crc_test

import (
	"bytes"
	"hash/crc32"
	"math/rand"
	"testing"

	"liftwell/crc"
)

// byBits does the chapter's words bit by bit.
func byBits(b []byte) uint32 {
	n := uint32(0xffffffff)
	for _, next := range b {
		for i := 0; i < 8; i++ {
			bit := uint32(next) >> i & 1
			both := n&1 ^ bit
			n >>= 1
			if both == 1 {
				n ^= 0xedb88320
			}
		}
	}
	return n ^ 0xffffffff
}

func drawn(r *rand.Rand, most int) []byte {
	b := make([]byte, r.Intn(most+1))
	r.Read(b)
	return b
}

func TestChapter(t *testing.T) {
	if got := crc.Sum([]byte("123456789")); got != 0xcbf43926 {
		t.Errorf("Sum of nine digits = %x", got)
	}
}

func TestSumOfNothing(t *testing.T) {
	for _, b := range [][]byte{nil, {}, make([]byte, 0, 9)} {
		if got := crc.Sum(b); got != 0 {
			t.Errorf("Sum(%#v) = %x, want 0", b, got)
		}
	}
}

func TestSumOfKnown(t *testing.T) {
	for _, x := range []struct {
		b    []byte
		want uint32
	}{
		{[]byte{0}, 0xd202ef8d}, {[]byte{1}, 0xa505df1b}, {[]byte{255}, 0xff000000},
		{[]byte("a"), 0xe8b7be43}, {[]byte("abc"), 0x352441c2},
		{[]byte{0, 0, 0, 0}, 0x2144df1c}, {[]byte{255, 255, 255, 255}, 0xffffffff},
		{make([]byte, 32), 0x190a55ad}, {bytes.Repeat([]byte{255}, 32), 0xff6cab0b},
		{[]byte("The quick brown fox jumps over the lazy dog"), 0x414fa339},
	} {
		if got := crc.Sum(x.b); got != x.want {
			t.Errorf("Sum(%x) = %x, want %x", x.b, got, x.want)
		}
	}
}

func TestSumOfEachByte(t *testing.T) {
	for n := range 256 {
		for _, b := range [][]byte{{byte(n)}, {byte(n), 0}, {0, byte(n)}, {0xa5, byte(n), 7}} {
			if got, want := crc.Sum(b), byBits(b); got != want {
				t.Errorf("Sum(%x) = %x, want %x", b, got, want)
			}
		}
	}
}

func TestSumOfLongRuns(t *testing.T) {
	for _, long := range []int{5, 31, 32, 33, 64, 255, 256, 257, 1000, 4096, 65537, 1 << 20} {
		for _, of := range []byte{0, 255} {
			b := bytes.Repeat([]byte{of}, long)
			if got, want := crc.Sum(b), crc32.ChecksumIEEE(b); got != want {
				t.Errorf("Sum of %d times %d = %x, want %x", long, of, got, want)
			}
		}
	}
}

func TestSumOfDrawn(t *testing.T) {
	r := rand.New(rand.NewSource(2))
	for range 2000 {
		b := drawn(r, 80)
		if got, want := crc.Sum(b), byBits(b); got != want {
			t.Fatalf("Sum(%x) = %x, want %x", b, got, want)
		}
	}
}

func TestMore(t *testing.T) {
	r := rand.New(rand.NewSource(3))
	parts := [][]byte{nil, {}, {0}, {255}, {0, 0, 0, 0}, {255, 255, 255, 255}, []byte("1234"), []byte("56789")}
	for range 60 {
		parts = append(parts, drawn(r, 40))
	}
	for _, a := range parts {
		for _, b := range parts {
			both := append(append([]byte{}, a...), b...)
			want := crc.Sum(both)
			if got := crc.More(crc.Sum(a), b); got != want {
				t.Fatalf("More(Sum(%x), %x) = %x, want %x", a, b, got, want)
			}
		}
	}
}

func TestMoreOfAnySum(t *testing.T) {
	r := rand.New(rand.NewSource(4))
	for _, sum := range []uint32{0, 1, 0x7fffffff, 0x80000000, 0xedb88320, 0xffffffff, 0xcbf43926} {
		for _, b := range [][]byte{nil, {}} {
			if got := crc.More(sum, b); got != sum {
				t.Errorf("More(%x, %#v) = %x", sum, b, got)
			}
		}
		for range 50 {
			b := drawn(r, 20)
			if got, want := crc.More(sum, b), crc32.Update(sum, crc32.IEEETable, b); got != want {
				t.Fatalf("More(%x, %x) = %x, want %x", sum, b, got, want)
			}
		}
	}
}

func TestMoreBitByBit(t *testing.T) {
	b := []byte("a number of 32 bits, all 1, for each byte")
	sum := uint32(0)
	for i := range b {
		sum = crc.More(sum, b[i:i+1])
		if want := crc.Sum(b[:i+1]); sum != want {
			t.Fatalf("More up to %d = %x, want %x", i, sum, want)
		}
	}
}

func TestBytesStay(t *testing.T) {
	room := []byte{9, 8, 7, 6, 5, 4, 3, 2, 1, 0xa5, 0xff, 0}
	before := bytes.Clone(room)
	for n := range room {
		first, again := crc.Sum(room[:n]), crc.Sum(room[:n])
		if first != again || crc.More(first, room[:n]) != crc.More(again, room[:n]) {
			t.Errorf("of %d bytes another answer", n)
		}
	}
	if !bytes.Equal(room, before) {
		t.Errorf("bytes are %x, were %x", room, before)
	}
}
