package record_test

import (
	"bytes"
	"fmt"
	"math"
	"slices"
	"strings"
	"testing"

	"blazon/api"
	"blazon/crc"
	"blazon/record"
)

// A row of numbers that is the same in each run.
type row uint64

func (r *row) next() uint64 {
	x := uint64(*r)
	x ^= x << 13
	x ^= x >> 7
	x ^= x << 17
	*r = row(x)
	return x
}

func (r *row) below(n int) int { return int(r.next() >> 20 % uint64(n)) }

func (r *row) bytes(n int) []byte {
	b := make([]byte, n)
	for i := range b {
		b[i] = byte(r.next() >> 32)
	}
	return b
}

func (r *row) records(n int) []record.Rec {
	l := make([]record.Rec, n)
	for i := range l {
		l[i] = record.Rec{Kind: r.below(256), Payload: r.bytes(r.below(12))}
	}
	return l
}

// bitSum is a sum as layer 2 tells it, bit by bit.
func bitSum(b []byte) uint32 {
	n := uint32(0xffffffff)
	for _, c := range b {
		n ^= uint32(c)
		for range 8 {
			if n%2 == 1 {
				n = n/2 ^ 0xedb88320
			} else {
				n /= 2
			}
		}
	}
	return ^n
}

func four(n uint32) []byte { return []byte{byte(n), byte(n >> 8), byte(n >> 16), byte(n >> 24)} }

// parts is a record of any length and sum, true or not.
func parts(length, sum uint32, kind byte, payload []byte) []byte {
	return slices.Concat(four(length), four(sum), []byte{kind}, payload)
}

// laid is a record as the chapter tells it, made without the program.
func laid(r record.Rec) []byte {
	kind := byte(r.Kind)
	return parts(uint32(len(r.Payload)), bitSum(append([]byte{kind}, r.Payload...)), kind, r.Payload)
}

func laidAll(l []record.Rec) []byte {
	var b []byte
	for _, r := range l {
		b = append(b, laid(r)...)
	}
	return b
}

func same(a, b record.Rec) bool { return a.Kind == b.Kind && bytes.Equal(a.Payload, b.Payload) }

func count(n int) []byte {
	b := make([]byte, n)
	for i := range b {
		b[i] = byte(i)
	}
	return b
}

func put(t *testing.T, s *crc.Summer, b []byte, r record.Rec) []byte {
	t.Helper()
	got, e := record.Put(s, b, r)
	if e != api.OK {
		t.Fatalf("Put of kind %d and %d bytes: %v", r.Kind, len(r.Payload), e)
	}
	return got
}

func putAll(t *testing.T, s *crc.Summer, l []record.Rec) []byte {
	t.Helper()
	var b []byte
	for _, r := range l {
		b = put(t, s, b, r)
	}
	return b
}

// wantGet holds that b begins with the record r.
func wantGet(t *testing.T, what string, s *crc.Summer, b []byte, r record.Rec) {
	t.Helper()
	got, used, e := record.Get(s, b)
	if e != api.OK || !same(got, r) || used != 9+len(r.Payload) {
		t.Fatalf("%s: Get = kind %d, %d bytes, %d, %v, want kind %d, %d bytes", what, got.Kind, len(got.Payload), used, e, r.Kind, len(r.Payload))
	}
}

// wantError holds that Get answers this error, and nothing beside it.
func wantError(t *testing.T, what string, s *crc.Summer, b []byte, want api.Errno) {
	t.Helper()
	got, used, e := record.Get(s, b)
	if e != want || got.Kind != 0 || len(got.Payload) != 0 || used != 0 {
		t.Fatalf("%s: Get = kind %d, %d bytes, %d, %v, want %v alone", what, got.Kind, len(got.Payload), used, e, want)
	}
}

// wantAll holds that b begins with just these records.
func wantAll(t *testing.T, what string, s *crc.Summer, b []byte, want []record.Rec) {
	t.Helper()
	l, used := record.All(s, b)
	bytesUsed := 0
	for _, r := range want {
		bytesUsed += 9 + len(r.Payload)
	}
	if !slices.EqualFunc(l, want, same) || used != bytesUsed {
		t.Fatalf("%s: All = %d records of %d bytes, want %d of %d", what, len(l), used, len(want), bytesUsed)
	}
}

func TestPutKnownBytes(t *testing.T) {
	s := crc.New()
	for _, c := range []struct {
		name string
		r    record.Rec
		want []byte
	}{
		{"nothing of kind 7", record.Rec{Kind: 7}, []byte{0, 0, 0, 0, 0x2e, 0x7a, 0x66, 0x4c, 7}},
		{"no bytes of kind 7", record.Rec{Kind: 7, Payload: []byte{}}, []byte{0, 0, 0, 0, 0x2e, 0x7a, 0x66, 0x4c, 7}},
		{"nothing of the least kind", record.Rec{Kind: 0}, []byte{0, 0, 0, 0, 0x8d, 0xef, 0x02, 0xd2, 0}},
		{"nothing of the greatest kind", record.Rec{Kind: 255}, []byte{0, 0, 0, 0, 0, 0, 0, 0xff, 0xff}},
		{"a word", record.Rec{Kind: 3, Payload: []byte("hello")}, append([]byte{5, 0, 0, 0, 0x96, 0x82, 0x64, 0xc7, 3}, "hello"...)},
		{"nine digits, the first one the kind", record.Rec{Kind: '1', Payload: []byte("23456789")}, append([]byte{8, 0, 0, 0, 0x26, 0x39, 0xf4, 0xcb}, "123456789"...)},
		{"three bytes 0", record.Rec{Payload: make([]byte, 3)}, []byte{3, 0, 0, 0, 0x1c, 0xdf, 0x44, 0x21, 0, 0, 0, 0}},
		{"257 bytes", record.Rec{Kind: 1, Payload: append(count(256), '!')}, append([]byte{1, 1, 0, 0, 0x91, 0x44, 0x94, 0x41, 1}, append(count(256), '!')...)},
		{"the longest", record.Rec{Kind: 200, Payload: bytes.Repeat([]byte{255}, 65536)}, append([]byte{0, 0, 1, 0, 0x49, 0xa5, 0x25, 0x5a, 200}, bytes.Repeat([]byte{255}, 65536)...)},
	} {
		for _, ahead := range []string{"", "x", "something longer"} {
			got := put(t, s, []byte(ahead), c.r)
			if !bytes.HasPrefix(got, []byte(ahead)) || !bytes.Equal(got[len(ahead):], c.want) {
				t.Errorf("%s behind %q: Put = %x", c.name, ahead, got[:min(len(got), 40)])
			}
		}
		if got := put(t, s, nil, c.r); !bytes.Equal(got, c.want) {
			t.Errorf("%s: Put behind nil = %x", c.name, got[:min(len(got), 40)])
		}
		wantGet(t, c.name, s, c.want, c.r)
	}
}

func TestPutOfEachKind(t *testing.T) {
	s := crc.New()
	for kind := range 256 {
		for _, payload := range [][]byte{nil, []byte("some bytes")} {
			r := record.Rec{Kind: kind, Payload: payload}
			b := put(t, s, nil, r)
			if !bytes.Equal(b, laid(r)) {
				t.Fatalf("kind %d: Put = %x, want %x", kind, b, laid(r))
			}
			wantGet(t, "a kind", s, b, r)
		}
	}
}

func TestPutOfManyLengths(t *testing.T) {
	s, r := crc.New(), row(1)
	lengths := []int{511, 512, 1000, 4096, 65534, 65535, 65536}
	for n := range 300 {
		lengths = append(lengths, n)
	}
	for _, n := range lengths {
		x := record.Rec{Kind: r.below(256), Payload: r.bytes(n)}
		b := put(t, s, []byte{9, 9}, x)
		if !bytes.Equal(b[:2], []byte{9, 9}) || !bytes.Equal(b[2:], laid(x)) {
			t.Fatalf("Put of %d bytes is wrong", n)
		}
		wantGet(t, fmt.Sprint(n, " bytes"), s, b[2:], x)
	}
}

func TestPutErrors(t *testing.T) {
	s := crc.New()
	most, over := make([]byte, record.Most), make([]byte, record.Most+1)
	for _, c := range []struct {
		name    string
		kind    int
		payload []byte
		want    api.Errno
	}{
		{"the longest", 255, most, api.OK},
		{"one more", 255, over, api.ErrLong},
		{"one more of kind 0", 0, over, api.ErrLong},
		{"a number of bytes that two bytes don't hold", 1, make([]byte, 1<<17), api.ErrLong},
		{"kind -1", -1, nil, api.ErrArg},
		{"kind 256", 256, nil, api.ErrArg},
		{"kind 263, whose lowest byte is 7", 263, []byte("x"), api.ErrArg},
		{"kind -249, whose lowest byte is 7", -249, []byte("x"), api.ErrArg},
		{"a kind of more than 32 bits", 1 << 32, nil, api.ErrArg},
		{"the least number", math.MinInt, most, api.ErrArg},
		{"the greatest number", math.MaxInt, most, api.ErrArg},
		{"kind -1, and too long", -1, over, api.ErrArg},
		{"kind 256, and too long", 256, over, api.ErrArg},
	} {
		for _, summer := range []*crc.Summer{s, nil} {
			for _, b := range [][]byte{nil, {}, []byte("b"), laid(record.Rec{Kind: 7})} {
				was := bytes.Clone(b)
				got, e := record.Put(summer, b, record.Rec{Kind: c.kind, Payload: c.payload})
				if e != c.want {
					t.Fatalf("%s: Put: %v, want %v", c.name, e, c.want)
				}
				if e != api.OK && !bytes.Equal(got, was) {
					t.Fatalf("%s: beside the error %x comes back, and not %x", c.name, got, was)
				}
			}
		}
	}
}

func TestMostIsAsTold(t *testing.T) {
	if record.Most != 65536 {
		t.Fatalf("Most = %d", record.Most)
	}
}

func TestGetErrors(t *testing.T) {
	s := crc.New()
	word := laid(record.Rec{Kind: 3, Payload: []byte("hello")})
	sum := bitSum([]byte("\x03hello"))
	for _, c := range []struct {
		name string
		b    []byte
		want api.Errno
	}{
		{"nil", nil, api.ErrShort},
		{"no bytes", []byte{}, api.ErrShort},
		{"one byte", []byte{0}, api.ErrShort},
		{"eight bytes of nothing", laid(record.Rec{Kind: 7})[:8], api.ErrShort},
		{"eight bytes, a length above Most", parts(1<<20, 0, 0, nil)[:8], api.ErrShort},
		{"eight bytes 255", bytes.Repeat([]byte{255}, 8), api.ErrShort},
		{"nine bytes 255", bytes.Repeat([]byte{255}, 9), api.ErrLong},
		{"a length of one more than Most", parts(record.Most+1, 0, 0, nil), api.ErrLong},
		{"the same, and the bytes are there", parts(record.Most+1, bitSum(make([]byte, record.Most+2)), 0, make([]byte, record.Most+1)), api.ErrLong},
		{"a length whose 31st bit is set", parts(1<<31, 0, 0, nil), api.ErrLong},
		{"a length that is -1 with a sign", parts(1<<32-1, sum, 3, []byte("hello")), api.ErrLong},
		{"a length that is -4 with a sign", parts(1<<32-4, sum, 3, []byte("hello")), api.ErrLong},
		{"a length whose lower bytes are right", parts(1<<24|5, sum, 3, []byte("hello")), api.ErrLong},
		{"a length of Most, and nothing", parts(record.Most, 0, 0, nil), api.ErrShort},
		{"a length of Most, and one byte less", parts(record.Most, 0, 0, make([]byte, record.Most-1)), api.ErrShort},
		{"a length of Most, and a wrong sum", parts(record.Most, 0, 0, make([]byte, record.Most)), api.ErrSum},
		{"a length of 1, and nothing", parts(1, bitSum([]byte{7}), 7, nil), api.ErrShort},
		{"ends ahead of its end, a wrong sum", parts(5, sum+1, 3, []byte("hell")), api.ErrShort},
		{"one byte is missing", word[:len(word)-1], api.ErrShort},
		{"the length is one more", parts(6, sum, 3, []byte("hello")), api.ErrShort},
		{"the length is one less", parts(4, sum, 3, []byte("hello")), api.ErrSum},
		{"another kind", parts(5, sum, 4, []byte("hello")), api.ErrSum},
		{"another sum", parts(5, sum+1, 3, []byte("hello")), api.ErrSum},
		{"another payload", parts(5, sum, 3, []byte("hellp")), api.ErrSum},
		{"the sum 0", parts(5, 0, 3, []byte("hello")), api.ErrSum},
		{"the sum of the payload alone", parts(5, bitSum([]byte("hello")), 3, []byte("hello")), api.ErrSum},
		{"the sum of the kind behind the payload", parts(5, bitSum([]byte("hello\x03")), 3, []byte("hello")), api.ErrSum},
		{"the sum's bytes the other way about", slices.Concat(four(5), []byte{byte(sum >> 24), byte(sum >> 16), byte(sum >> 8), byte(sum)}, []byte("\x03hello")), api.ErrSum},
		{"nine bytes 0", make([]byte, 9), api.ErrSum},
		{"a wrong sum, and a right record behind it", append(parts(0, 1, 0, nil), word...), api.ErrSum},
	} {
		wantError(t, c.name, s, c.b, c.want)
	}
}

// Whatever stands behind a record: it is read as if it stood alone.
func TestGetLeavesWhatFollows(t *testing.T) {
	s, r := crc.New(), row(2)
	for _, n := range []int{0, 1, 5, 255, 256, 65535, 65536} {
		x := record.Rec{Kind: r.below(256), Payload: r.bytes(n)}
		for _, behind := range [][]byte{nil, {0}, {255}, laid(x), r.bytes(70000)} {
			wantGet(t, fmt.Sprint(len(behind), " bytes behind ", n), s, append(laid(x), behind...), x)
		}
	}
}

func TestTurnedByteIsTold(t *testing.T) {
	s, r := crc.New(), row(3)
	for _, n := range []int{0, 1, 4, 30} {
		b := laid(record.Rec{Kind: r.below(256), Payload: r.bytes(n)})
		for i := range b {
			for turn := 1; turn < 256; turn++ {
				b[i] ^= byte(turn)
				_, _, e := record.Get(s, b)
				b[i] ^= byte(turn)
				if e == api.OK || i >= 4 && e != api.ErrSum {
					t.Fatalf("byte %d of a record of %d bytes turned by %02x: %v", i, n, turn, e)
				}
			}
		}
	}
}

// A record has one form: what is read is just what would be laid.
func TestGetReadsOnlyWhatIsLaid(t *testing.T) {
	s, r := crc.New(), row(4)
	found := 0
	for range 20000 {
		b := laidAll(r.records(1 + r.below(2)))
		for range r.below(3) {
			b[r.below(len(b))] ^= byte(r.below(256))
		}
		b = b[:len(b)-r.below(3)]
		got, used, e := record.Get(s, b)
		if e != api.OK {
			wantError(t, "bytes at random", s, b, e)
			continue
		}
		found++
		if !bytes.Equal(put(t, s, nil, got), b[:used]) {
			t.Fatalf("Get(%x) is a record that is laid otherwise", b)
		}
	}
	if found < 1000 {
		t.Fatalf("only %d records were whole", found)
	}
}

func TestAllTellsWhatIsLaid(t *testing.T) {
	s, r := crc.New(), row(5)
	for n := range 60 {
		l := r.records(n)
		b := putAll(t, s, l)
		if !bytes.Equal(b, laidAll(l)) {
			t.Fatalf("%d records are laid otherwise", n)
		}
		wantAll(t, "what was laid", s, b, l)
	}
	long := []record.Rec{{Kind: 1, Payload: r.bytes(65536)}, {Kind: 2}, {Kind: 3, Payload: r.bytes(65535)}, {Kind: 1, Payload: r.bytes(65536)}}
	wantAll(t, "long ones", s, putAll(t, s, long), long)
	many := make([]record.Rec, 20000)
	wantAll(t, "many ones", s, laidAll(many), many)
}

func TestAllOfNothing(t *testing.T) {
	s := crc.New()
	for _, b := range [][]byte{nil, {}, {0}, laid(record.Rec{Kind: 7})[:8], bytes.Repeat([]byte{255}, 100), make([]byte, 100)} {
		wantAll(t, "no record", s, b, nil)
	}
}

// What ends the row, and what follows is not looked at, be it a right record.
func TestAllEndsAtTheFirstError(t *testing.T) {
	s, r := crc.New(), row(6)
	for n := range 5 {
		ahead, behind := r.records(n), laidAll(r.records(3))
		for name, bad := range map[string][]byte{
			"ErrSum":           parts(0, 1, 0, nil),
			"ErrSum of length": parts(3, 1, 0, []byte("abc")),
			"ErrLong":          parts(record.Most+1, 0, 0, nil),
			"ErrShort":         parts(60000, 0, 0, nil),
			"nine bytes 0":     make([]byte, 9),
			"a byte":           {0},
		} {
			wantAll(t, name+" at the end", s, append(laidAll(ahead), bad...), ahead)
			wantAll(t, name+" in the midst", s, slices.Concat(laidAll(ahead), bad, behind), ahead)
		}
	}
}

// P4.2: All is Get, one behind the other.
func TestAllIsGetAgainAndAgain(t *testing.T) {
	s, r := crc.New(), row(7)
	for range 3000 {
		b := laidAll(r.records(r.below(6)))
		for range r.below(3) {
			if len(b) > 0 {
				b[r.below(len(b))] ^= byte(1 + r.below(255))
			}
		}
		var want []record.Rec
		for at := 0; ; {
			x, used, e := record.Get(s, b[at:])
			if e != api.OK {
				break
			}
			want, at = append(want, x), at+used
		}
		wantAll(t, "turned bytes", s, b, want)
	}
}

// P4.3: cut off anywhere, those are told that are whole.
func TestAllOfACut(t *testing.T) {
	r := row(8)
	for _, s := range []*crc.Summer{crc.New(), nil} {
		for n := range 12 {
			l := r.records(n)
			if n%3 == 0 {
				l = append(l, record.Rec{Kind: 7}, record.Rec{Kind: 7})
			}
			b := putAll(t, s, l)
			whole, end := 0, 0
			for cut := 0; cut <= len(b); cut++ {
				for whole < len(l) && end+9+len(l[whole].Payload) <= cut {
					end += 9 + len(l[whole].Payload)
					whole++
				}
				wantAll(t, fmt.Sprint("cut off at ", cut), s, b[:cut], l[:whole])
				wantAll(t, fmt.Sprint("cut off at ", cut, ", a copy"), s, bytes.Clone(b[:cut]), l[:whole])
			}
		}
	}
}

// Of a nil Summer sums are 0: 0 is laid, and 0 alone is read.
func TestNilSummer(t *testing.T) {
	r := row(9)
	for _, n := range []int{0, 1, 20, 65536} {
		x := record.Rec{Kind: 1 + r.below(254), Payload: r.bytes(n)}
		b := put(t, nil, []byte("ab"), x)
		if !bytes.Equal(b, append([]byte("ab"), parts(uint32(n), 0, byte(x.Kind), x.Payload)...)) {
			t.Fatalf("Put of nil, of %d bytes: %x", n, b[:11])
		}
		wantGet(t, "nil laid it", nil, b[2:], x)
		wantError(t, "nil laid it, and another reads it", crc.New(), b[2:], api.ErrSum)
		wantError(t, "another laid it, and nil reads it", nil, laid(x), api.ErrSum)
		wantAll(t, "nil laid them", nil, append(b[2:], b[2:]...), []record.Rec{x, x})
		wantAll(t, "another laid it", nil, laid(x), nil)
	}
	wantError(t, "a kind that is not looked at", nil, parts(0, 1, 0, nil), api.ErrSum)
	wantGet(t, "turned bytes without a sum", nil, parts(1, 0, 9, []byte("y")), record.Rec{Kind: 9, Payload: []byte("y")})
	wantError(t, "nil and nothing", nil, nil, api.ErrShort)
	wantError(t, "nil and a length", nil, parts(record.Most+1, 0, 0, nil), api.ErrLong)
	wantError(t, "nil and an end", nil, parts(2, 0, 0, []byte("y")), api.ErrShort)
	wantAll(t, "noughts are records of nothing", nil, make([]byte, 40), make([]record.Rec, 4))
}

// What one summer has laid another one reads, and one that New did not make.
func TestNothingHangsOnTheSummer(t *testing.T) {
	r := row(10)
	var zero crc.Summer
	l := r.records(20)
	used := crc.New()
	used.Of(r.bytes(1000))
	for _, s := range []*crc.Summer{crc.New(), used, &zero} {
		b := putAll(t, s, l)
		if !bytes.Equal(b, laidAll(l)) {
			t.Fatal("another summer lays other bytes")
		}
		for range 3 {
			wantAll(t, "another summer", s, b, l)
		}
	}
}

func TestPutSharesNoMemory(t *testing.T) {
	s := crc.New()
	big := make([]byte, record.Most+1)
	for name, r := range map[string]record.Rec{
		"a record": {Kind: 1, Payload: []byte("payload")},
		"ErrArg":   {Kind: -1},
		"ErrLong":  {Payload: big},
	} {
		whole := []byte(strings.Repeat("3", 100))
		payload := bytes.Clone(r.Payload)
		first, _ := record.Put(s, whole[:3], r)
		second, _ := record.Put(s, whole[:3], r)
		was := bytes.Clone(first)
		for i := range second {
			second[i] = '*'
		}
		_ = append(second[:len(second):cap(second)], "*****"...)
		if string(whole) != strings.Repeat("3", 100) || !bytes.Equal(r.Payload, payload) {
			t.Fatalf("%s: what was handed in is changed", name)
		}
		copy(whole, "!!!")
		copy(r.Payload, "!!!")
		if !bytes.Equal(first, was) {
			t.Fatalf("%s: what was answered is changed", name)
		}
	}
}

// A payload may lie where the list it is put to goes on.
func TestPutOfItsOwnMemory(t *testing.T) {
	s := crc.New()
	whole := []byte("abcdefghijklmnopqrstuvwxyz")
	for i := range whole {
		for j := i; j <= len(whole); j++ {
			got := put(t, s, whole[:i], record.Rec{Kind: 5, Payload: whole[j:]})
			want := append(bytes.Clone(whole[:i]), laid(record.Rec{Kind: 5, Payload: whole[j:]})...)
			if !bytes.Equal(got, want) || string(whole) != "abcdefghijklmnopqrstuvwxyz" {
				t.Fatalf("Put of %q behind %q = %q", whole[j:], whole[:i], got)
			}
		}
	}
}

func TestGetAndAllShareNoMemory(t *testing.T) {
	s := crc.New()
	l := []record.Rec{{Kind: 1, Payload: []byte("one")}, {Kind: 2, Payload: []byte("two")}, {Kind: 3, Payload: []byte("three")}}
	b := laidAll(l)
	was := bytes.Clone(b)
	one, _, _ := record.Get(s, b)
	all, _ := record.All(s, b)
	_ = append(one.Payload, "****"...)
	copy(one.Payload, "****")
	_ = append(all[0].Payload, "****"...)
	copy(all[0].Payload, "****")
	_ = append(all[:1], record.Rec{Kind: 9})
	if !bytes.Equal(b, was) {
		t.Fatalf("what was handed in is changed: %q", b)
	}
	all, _ = record.All(s, b)
	copy(all[1].Payload, "*")
	_ = append(all[1].Payload, "***************"...)
	for i := range b {
		b[i] = '!'
	}
	if string(all[0].Payload) != "one" || string(all[2].Payload) != "three" {
		t.Fatalf("what was answered is changed: %q, %q", all[0].Payload, all[2].Payload)
	}
	wantAll(t, "as it was", s, was, l)
}

// What lies behind the length would make the record whole.
func TestNothingBehindTheLengthIsRead(t *testing.T) {
	s := crc.New()
	whole := laidAll([]record.Rec{{Kind: 1, Payload: []byte("one")}, {Kind: 2, Payload: []byte("two")}})
	was := bytes.Clone(whole)
	for i := range 12 {
		wantError(t, fmt.Sprint("the first ", i, " bytes"), s, whole[:i], api.ErrShort)
		wantAll(t, fmt.Sprint("the first ", i, " bytes"), s, whole[:i], nil)
	}
	wantAll(t, "one is whole", s, whole[:len(whole)-1], []record.Rec{{Kind: 1, Payload: []byte("one")}})
	if !bytes.Equal(whole, was) {
		t.Fatal("what was handed in is changed")
	}
}
