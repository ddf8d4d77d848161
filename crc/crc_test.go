package crc_test

import (
	"bytes"
	"testing"

	"blazon/crc"
)

// A row of numbers that is the same in each run.
type row uint64

func (r *row) next() uint64 {
	x := uint64(*r)
	x ^= x << 13
	x ^= x >> 7
	x ^= x << 17
	*r = row(x)
	return x
}

func (r *row) bytes(n int) []byte {
	b := make([]byte, n)
	for i := range b {
		b[i] = byte(r.next() >> 32)
	}
	return b
}

// steps goes on from a number, bit by bit, as the chapter tells it.
func steps(n uint32, b []byte) uint32 {
	for _, c := range b {
		n ^= uint32(c)
		for range 8 {
			if n%2 == 1 {
				n = n/2 ^ 0xedb88320
			} else {
				n /= 2
			}
		}
	}
	return n
}

func sumOf(b []byte) uint32 { return steps(0xffffffff, b) ^ 0xffffffff }

func count(from, n int) []byte {
	b := make([]byte, n)
	for i := range b {
		b[i] = byte(from + i)
	}
	return b
}

func TestOfKnownSums(t *testing.T) {
	s := crc.New()
	for _, c := range []struct {
		name string
		b    []byte
		want uint32
	}{
		{"nil", nil, 0},
		{"none", []byte{}, 0},
		{"nine digits", []byte("123456789"), 0xcbf43926},
		{"one byte 0", []byte{0}, 0xd202ef8d},
		{"one byte 255", []byte{255}, 0xff000000},
		{"a", []byte("a"), 0xe8b7be43},
		{"abc", []byte("abc"), 0x352441c2},
		{"four bytes 255", []byte{255, 255, 255, 255}, 0xffffffff},
		{"32 bytes 0", make([]byte, 32), 0x190a55ad},
		{"32 bytes 255", bytes.Repeat([]byte{255}, 32), 0xff6cab0b},
		{"0 to 31", count(0, 32), 0x91267e8a},
		{"all bytes", count(0, 256), 0x29058c73},
		{"a sentence", []byte("The quick brown fox jumps over the lazy dog"), 0x414fa339},
	} {
		if got := s.Of(c.b); got != c.want {
			t.Errorf("%s: Of = %08x, want %08x", c.name, got, c.want)
		}
		if got := sumOf(c.b); got != c.want {
			t.Errorf("%s: the test's own sum is %08x, want %08x", c.name, got, c.want)
		}
	}
}

// All bytes at the first place, and all pairs: each place of the table is used, from many numbers.
func TestOfShortTextsAgainstBits(t *testing.T) {
	s := crc.New()
	for i := range 1 << 16 {
		for _, b := range [][]byte{{byte(i)}, {byte(i), byte(i >> 8)}} {
			if got, want := s.Of(b), sumOf(b); got != want {
				t.Fatalf("Of(%x) = %08x, want %08x", b, got, want)
			}
		}
	}
}

func TestOfAgainstBits(t *testing.T) {
	s, r := crc.New(), row(1)
	for n := range 700 {
		b := r.bytes(n)
		if got, want := s.Of(b), sumOf(b); got != want {
			t.Fatalf("Of(%x) = %08x, want %08x", b, got, want)
		}
	}
	b := r.bytes(1 << 20)
	if got, want := s.Of(b), sumOf(b); got != want {
		t.Fatalf("Of 2^20 bytes = %08x, want %08x", got, want)
	}
}

func TestMoreGoesOnFromAnySum(t *testing.T) {
	s, r := crc.New(), row(2)
	sums := []uint32{0, 1, 2, 0x7f, 0x80, 0xff, 0x100, 0x7fffffff, 0x80000000, 0xedb88320, 0xfffffffe, 0xffffffff}
	for range 500 {
		sums = append(sums, uint32(r.next()))
	}
	for i, sum := range sums {
		for _, b := range [][]byte{nil, {}, {0}, {255}, r.bytes(i % 40)} {
			want := steps(sum^0xffffffff, b) ^ 0xffffffff
			if got := s.More(sum, b); got != want {
				t.Fatalf("More(%08x, %x) = %08x, want %08x", sum, b, got, want)
			}
		}
	}
}

// Nothing behind leaves the sum; behind nothing it is the sum alone.
func TestMoreOfNothing(t *testing.T) {
	s, r := crc.New(), row(3)
	for n := range 50 {
		b := r.bytes(n)
		sum := s.Of(b)
		if s.More(sum, nil) != sum || s.More(sum, []byte{}) != sum {
			t.Fatalf("nothing behind %x changes its sum", b)
		}
		if s.More(s.Of(nil), b) != sum || s.More(0, b) != sum {
			t.Fatalf("%x behind nothing has another sum", b)
		}
	}
}

func TestSumHangsOnNoCut(t *testing.T) {
	s, r := crc.New(), row(4)
	texts := [][]byte{[]byte("123456789"), make([]byte, 20), bytes.Repeat([]byte{255}, 20)}
	for n := range 40 {
		texts = append(texts, r.bytes(n))
	}
	for _, b := range texts {
		all := s.Of(b)
		for i := 0; i <= len(b); i++ {
			first := s.Of(b[:i])
			if got := s.More(first, b[i:]); got != all {
				t.Fatalf("%x cut at %d: %08x, want %08x", b, i, got, all)
			}
			for j := i; j <= len(b); j++ {
				if got := s.More(s.More(first, b[i:j]), b[j:]); got != all {
					t.Fatalf("%x cut at %d and %d: %08x, want %08x", b, i, j, got, all)
				}
			}
		}
		one := s.Of(nil)
		for i := range b {
			one = s.More(one, b[i:i+1])
		}
		if one != all {
			t.Fatalf("%x byte by byte: %08x, want %08x", b, one, all)
		}
	}
}

// What begins with one summer goes on with another one.
func TestSumHangsOnNoSummer(t *testing.T) {
	r := row(5)
	b := r.bytes(100)
	all := crc.New().Of(b)
	for i := range b {
		if got := crc.New().More(crc.New().Of(b[:i]), b[i:]); got != all {
			t.Fatalf("cut at %d, by three summers: %08x, want %08x", i, got, all)
		}
	}
}

func TestTurnedByteChangesSum(t *testing.T) {
	s, r := crc.New(), row(6)
	for _, n := range []int{1, 2, 3, 4, 5, 8, 9, 33, 300} {
		b := r.bytes(n)
		was, more := s.Of(b), s.More(0x12345678, b)
		for i := range b {
			for turn := 1; turn < 256; turn++ {
				b[i] ^= byte(turn)
				if s.Of(b) == was || s.More(0x12345678, b) == more {
					t.Fatalf("byte %d of %d turned by %02x leaves the sum", i, n, turn)
				}
				b[i] ^= byte(turn)
			}
		}
	}
}

func TestCallsAreCounted(t *testing.T) {
	s := crc.New()
	want := 0
	told := func(what string) {
		t.Helper()
		for range 2 {
			if got := s.Calls(); got != want {
				t.Fatalf("behind %s: Calls = %d, want %d", what, got, want)
			}
		}
	}
	told("New")
	s.Of([]byte("abc"))
	want++
	told("Of")
	s.More(7, []byte("abc"))
	want++
	told("More")
	s.Of(nil)
	want++
	told("Of of nil")
	s.Of([]byte{})
	want++
	told("Of of no bytes")
	s.More(0, nil)
	want++
	told("More of nil")
	for range 1000 {
		s.Of([]byte{1})
		s.More(1, []byte{1})
		want += 2
	}
	told("many")
}

func TestEachSummerCountsItsOwn(t *testing.T) {
	a, b := crc.New(), crc.New()
	if a == nil || b == nil || a == b {
		t.Fatal("New answers no summer of its own")
	}
	a.Of(nil)
	a.More(1, nil)
	b.Of(nil)
	if a.Calls() != 2 || b.Calls() != 1 || crc.New().Calls() != 0 {
		t.Fatalf("Calls = %d, %d, want 2, 1", a.Calls(), b.Calls())
	}
}

func TestNilSummer(t *testing.T) {
	var s *crc.Summer
	for range 2 {
		for _, b := range [][]byte{nil, {}, []byte("123456789")} {
			if got := s.Of(b); got != 0 {
				t.Errorf("Of(%q) of nil = %08x", b, got)
			}
			for _, sum := range []uint32{0, 1, 0xcbf43926, 0xffffffff} {
				if got := s.More(sum, b); got != 0 {
					t.Errorf("More(%08x, %q) of nil = %08x", sum, b, got)
				}
			}
		}
		if got := s.Calls(); got != 0 {
			t.Errorf("Calls of nil = %d", got)
		}
	}
}

// A summer that New did not make: whatever is called first finds its table.
func TestZeroSummer(t *testing.T) {
	var of, more crc.Summer
	if of.Calls() != 0 {
		t.Errorf("Calls = %d", of.Calls())
	}
	if got := of.Of([]byte("123456789")); got != 0xcbf43926 || of.Calls() != 1 {
		t.Errorf("Of = %08x, Calls = %d", got, of.Calls())
	}
	if got := more.More(0, []byte("123456789")); got != 0xcbf43926 || more.Calls() != 1 {
		t.Errorf("More = %08x, Calls = %d", got, more.Calls())
	}
}

// The same call has the same answer, whatever was asked between.
func TestNothingIsKeptButTheCount(t *testing.T) {
	s, r := crc.New(), row(7)
	b := r.bytes(50)
	of, more := s.Of(b), s.More(99, b)
	for i := range 100 {
		s.Of(r.bytes(i))
		s.More(uint32(r.next()), r.bytes(i))
		if s.Of(b) != of || s.More(99, b) != more {
			t.Fatalf("another answer behind %d other calls", 2*(i+1))
		}
	}
}

func TestBytesAreLeftAsTheyAre(t *testing.T) {
	s := crc.New()
	whole := count(0, 64)
	want := sumOf(count(0, 9))
	if got := s.Of(whole[:9]); got != want {
		t.Errorf("Of = %08x, want %08x: what lies behind the length was read", got, want)
	}
	s.More(want, whole[9:30])
	if !bytes.Equal(whole, count(0, 64)) {
		t.Errorf("what was handed in is changed: %x", whole)
	}
	whole[0] = 77
	if got := s.Of(count(0, 9)); got != want {
		t.Errorf("what was handed in is kept")
	}
}
