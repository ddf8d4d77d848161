package num_test

import (
	"bytes"
	"math"
	"math/bits"
	"testing"

	"blazon/api"
	"blazon/num"
)

// A row of numbers that is the same in each run.
type row uint64

func (r *row) next() uint64 {
	x := uint64(*r)
	x ^= x << 13
	x ^= x >> 7
	x ^= x << 17
	*r = row(x)
	return x
}

// Numbers of all lengths, not only those near 2^64.
func (r *row) sized() uint64 { return r.next() >> (r.next() % 64) }

// The numbers at which something changes: around each power of two, with both signs.
func edges() []int64 {
	l := []int64{0, math.MaxInt64, math.MinInt64, math.MinInt64 + 1, 3037000499, 3037000500, -3037000499, -3037000500}
	for i := range 63 {
		p := int64(1) << i
		l = append(l, p-1, p, p+1, -p-1, -p, -p+1)
	}
	return l
}

func unsignedEdges() []uint64 {
	l := []uint64{0, math.MaxUint64}
	for i := range 64 {
		p := uint64(1) << i
		l = append(l, p-1, p, p+1)
	}
	return l
}

// repeat is n bytes c, and then the others.
func repeat(n int, c byte, others ...byte) []byte {
	return append(bytes.Repeat([]byte{c}, n), others...)
}

func TestPutShortForm(t *testing.T) {
	for _, c := range []struct {
		n    uint64
		want []byte
	}{
		{0, []byte{0}},
		{1, []byte{1}},
		{127, []byte{127}},
		{128, []byte{0x80, 1}},
		{300, []byte{0xac, 0x02}},
		{16383, []byte{0xff, 0x7f}},
		{16384, []byte{0x80, 0x80, 1}},
		{1<<63 - 1, repeat(8, 0xff, 0x7f)},
		{1 << 63, repeat(9, 0x80, 1)},
		{math.MaxUint64, repeat(9, 0xff, 1)},
	} {
		if got := num.Put(nil, c.n); !bytes.Equal(got, c.want) {
			t.Errorf("Put(nil, %d) = %x, want %x", c.n, got, c.want)
		}
		if got := num.Put([]byte{7, 0x80}, c.n); !bytes.Equal(got, append([]byte{7, 0x80}, c.want...)) {
			t.Errorf("Put behind other bytes of %d = %x", c.n, got)
		}
	}
}

func TestPutIsMadeOfDigits(t *testing.T) {
	for _, n := range unsignedEdges() {
		got := num.Put(nil, n)
		left := n
		for i, c := range got {
			if uint64(c)%128 != left%128 {
				t.Fatalf("Put(nil, %d) = %x: digit %d is wrong", n, got, i)
			}
			if last := i == len(got)-1; last == (c >= 128) {
				t.Fatalf("Put(nil, %d) = %x: byte %d does not tell whether more follow", n, got, i)
			}
			left /= 128
		}
		if left != 0 || len(got) > 1 && got[len(got)-1] == 0 {
			t.Fatalf("Put(nil, %d) = %x: too few or too many digits", n, got)
		}
	}
}

func TestGet(t *testing.T) {
	for _, c := range []struct {
		name string
		b    []byte
		n    uint64
		used int
		e    api.Errno
	}{
		{"nothing", nil, 0, 0, api.ErrShort},
		{"nothing, but a list", []byte{}, 0, 0, api.ErrShort},
		{"the digit 0", []byte{0}, 0, 1, api.OK},
		{"the digit 0, and more behind it", []byte{0, 0x80, 9}, 0, 1, api.OK},
		{"one digit", []byte{127}, 127, 1, api.OK},
		{"two digits", []byte{0xac, 2}, 300, 2, api.OK},
		{"two digits, and more behind them", []byte{0xac, 2, 0xff}, 300, 2, api.OK},
		{"a digit 0 within", []byte{0x81, 0x80, 1}, 16385, 3, api.OK},
		{"the end after one byte", []byte{0x80}, 0, 0, api.ErrShort},
		{"the end after two bytes", []byte{0xff, 0x80}, 0, 0, api.ErrShort},
		{"the end after nine bytes", repeat(9, 0xff), 0, 0, api.ErrShort},
		{"the end after a tenth digit 1", repeat(9, 0xff, 0x81), 0, 0, api.ErrShort},
		{"the end after a tenth digit 0", repeat(10, 0x80), 0, 0, api.ErrShort},
		{"the last digit 0 is the second", []byte{0x80, 0}, 0, 0, api.ErrForm},
		{"the last digit 0 is the second, behind others", []byte{0xff, 0}, 0, 0, api.ErrForm},
		{"the last digit 0 is the third, more behind it", []byte{0xff, 0x81, 0, 5}, 0, 0, api.ErrForm},
		{"the last digit 0 is the tenth", repeat(9, 0xff, 0), 0, 0, api.ErrForm},
		{"nine digits", repeat(8, 0xff, 0x7f), 1<<63 - 1, 9, api.OK},
		{"the tenth digit 1", repeat(9, 0x80, 1), 1 << 63, 10, api.OK},
		{"the greatest", repeat(9, 0xff, 1), math.MaxUint64, 10, api.OK},
		{"the greatest, and more behind it", repeat(9, 0xff, 1, 0xff), math.MaxUint64, 10, api.OK},
		{"the tenth digit 2", repeat(9, 0xff, 2), 0, 0, api.ErrForm},
		{"the tenth digit 2, others 0", repeat(9, 0x80, 2), 0, 0, api.ErrForm},
		{"the tenth digit 127", repeat(9, 0xff, 127), 0, 0, api.ErrForm},
		{"the tenth digit 2, and the end", repeat(9, 0xff, 0x82), 0, 0, api.ErrForm},
		{"the tenth digit 127, and the end", repeat(10, 0xff), 0, 0, api.ErrForm},
		{"an eleventh digit 0", repeat(9, 0xff, 0x81, 0), 0, 0, api.ErrForm},
		{"an eleventh digit 1", repeat(9, 0xff, 0x81, 1), 0, 0, api.ErrForm},
		{"an eleventh digit behind noughts", repeat(10, 0x80, 1), 0, 0, api.ErrForm},
		{"an eleventh digit, and the end", repeat(9, 0xff, 0x81, 0x80), 0, 0, api.ErrForm},
		{"an eleventh digit without an end", repeat(100, 0x80), 0, 0, api.ErrForm},
	} {
		n, used, e := num.Get(c.b)
		if n != c.n || used != c.used || e != c.e {
			t.Errorf("%s: Get(%x) = %d, %d, %d, want %d, %d, %d", c.name, c.b, n, used, e, c.n, c.used, c.e)
		}
	}
}

// Each number has one short form: what is read is just what would be laid.
func TestGetReadsOnlyWhatIsLaid(t *testing.T) {
	check := func(b []byte) {
		n, used, e := num.Get(b)
		if e != api.OK {
			if n != 0 || used != 0 {
				t.Fatalf("Get(%x) = %d, %d beside error %d", b, n, used, e)
			}
			return
		}
		if !bytes.Equal(num.Put(nil, n), b[:used]) {
			t.Fatalf("Get(%x) = %d of %d bytes, whose short form is another", b, n, used)
		}
	}
	for i := range 1 << 16 {
		check([]byte{byte(i)})
		check([]byte{byte(i), byte(i >> 8)})
		check(repeat(8, 0x80, byte(i), byte(i>>8)))
		check(repeat(9, 0xff, byte(i), byte(i>>8)))
	}
	r := row(1)
	for range 20000 {
		b := make([]byte, r.next()%13)
		for i := range b {
			b[i] = byte(r.next())
			if r.next()%8 != 0 {
				b[i] |= 0x80
			}
		}
		check(b)
	}
}

func TestPut4(t *testing.T) {
	for _, c := range []struct {
		n    uint32
		want []byte
	}{
		{0, []byte{0, 0, 0, 0}},
		{1, []byte{1, 0, 0, 0}},
		{0x01020304, []byte{4, 3, 2, 1}},
		{0xdeadbeef, []byte{0xef, 0xbe, 0xad, 0xde}},
		{math.MaxUint32, []byte{255, 255, 255, 255}},
	} {
		if got := num.Put4(nil, c.n); !bytes.Equal(got, c.want) {
			t.Errorf("Put4(nil, %x) = %x", c.n, got)
		}
		if got := num.Put4([]byte{9}, c.n); !bytes.Equal(got, append([]byte{9}, c.want...)) {
			t.Errorf("Put4 behind another byte of %x = %x", c.n, got)
		}
	}
}

func TestGet4(t *testing.T) {
	whole := []byte{0xef, 0xbe, 0xad, 0xde, 0x55}
	for i := range 4 {
		if n, e := num.Get4(whole[:i]); n != 0 || e != api.ErrShort {
			t.Errorf("Get4 of %d bytes = %x, %d", i, n, e)
		}
	}
	if n, e := num.Get4(nil); n != 0 || e != api.ErrShort {
		t.Errorf("Get4(nil) = %x, %d", n, e)
	}
	for i := 4; i <= 5; i++ {
		if n, e := num.Get4(whole[:i]); n != 0xdeadbeef || e != api.OK {
			t.Errorf("Get4 of %d bytes = %x, %d", i, n, e)
		}
	}
}

// What lies behind a list's length is not the callee's, and an answer is new memory.
func TestPutLeavesWhatItIsGiven(t *testing.T) {
	puts := map[string]func(b []byte) []byte{
		"Put":  func(b []byte) []byte { return num.Put(b, math.MaxUint64) },
		"Put4": func(b []byte) []byte { return num.Put4(b, math.MaxUint32) },
	}
	for name, put := range puts {
		whole := bytes.Repeat([]byte{0x33}, 64)
		got := put(whole[:3])
		if !bytes.Equal(whole, bytes.Repeat([]byte{0x33}, 64)) {
			t.Errorf("%s wrote behind the length of its list: %x", name, whole)
		}
		for i := range got {
			got[i] = 0x44
		}
		if whole[0] != 0x33 {
			t.Errorf("%s answered memory of its argument", name)
		}
		got = put(whole[:3])
		whole[0] = 0x55
		if got[0] != 0x33 {
			t.Errorf("%s kept its argument", name)
		}
	}
}

func TestGetLeavesWhatItIsGiven(t *testing.T) {
	b := []byte{0xac, 0x82, 0x81, 0x03, 0x77}
	was := bytes.Clone(b)
	num.Get(b)
	num.Get4(b)
	if !bytes.Equal(b, was) {
		t.Errorf("what was handed in is changed: %x", b)
	}
	// Behind the length there would be a right end.
	if _, _, e := num.Get(b[:1]); e != api.ErrShort {
		t.Errorf("Get read behind the length: %d", e)
	}
}

// The sum in 128 bits, by halves: it doesn't go round.
func wideAdd(a, b int64) (hi, lo uint64) {
	lo, carry := bits.Add64(uint64(a), uint64(b), 0)
	hi, _ = bits.Add64(uint64(a>>63), uint64(b>>63), carry)
	return hi, lo
}

// The product in 128 bits; a negative side counts 2^64 too much of the other one.
func wideMul(a, b int64) (hi, lo uint64) {
	hi, lo = bits.Mul64(uint64(a), uint64(b))
	if a < 0 {
		hi -= uint64(b)
	}
	if b < 0 {
		hi -= uint64(a)
	}
	return hi, lo
}

// narrow is a number of 128 bits as one of 64, or that it isn't one.
func narrow(hi, lo uint64) (int64, api.Errno) {
	if hi != uint64(int64(lo)>>63) {
		return 0, api.ErrOver
	}
	return int64(lo), api.OK
}

func checkAddMul(t *testing.T, a, b int64) {
	t.Helper()
	want, wantE := narrow(wideAdd(a, b))
	if got, e := num.Add(a, b); got != want || e != wantE {
		t.Fatalf("Add(%d, %d) = %d, %d, want %d, %d", a, b, got, e, want, wantE)
	}
	want, wantE = narrow(wideMul(a, b))
	if got, e := num.Mul(a, b); got != want || e != wantE {
		t.Fatalf("Mul(%d, %d) = %d, %d, want %d, %d", a, b, got, e, want, wantE)
	}
}

func TestAddMulAgainst128Bits(t *testing.T) {
	l := edges()
	for _, a := range l {
		for _, b := range l {
			checkAddMul(t, a, b)
		}
	}
	r := row(2)
	for range 20000 {
		a, b := int64(r.sized()), int64(r.sized())
		checkAddMul(t, a, b)
		checkAddMul(t, a, -b)
		checkAddMul(t, -a, b)
		checkAddMul(t, -a, -b)
	}
}

type two struct {
	a, b, want int64
	e          api.Errno
}

func TestAdd(t *testing.T) {
	for _, c := range []two{
		{2, 3, 5, api.OK},
		{2, -3, -1, api.OK},
		{0, 0, 0, api.OK},
		{math.MaxInt64, 0, math.MaxInt64, api.OK},
		{math.MaxInt64 - 1, 1, math.MaxInt64, api.OK},
		{math.MaxInt64, 1, 0, api.ErrOver},
		{1, math.MaxInt64, 0, api.ErrOver},
		{math.MaxInt64, math.MaxInt64, 0, api.ErrOver},
		{math.MinInt64, 0, math.MinInt64, api.OK},
		{math.MinInt64 + 1, -1, math.MinInt64, api.OK},
		{math.MinInt64, -1, 0, api.ErrOver},
		{-1, math.MinInt64, 0, api.ErrOver},
		{math.MinInt64, math.MinInt64, 0, api.ErrOver},
		{math.MinInt64, math.MaxInt64, -1, api.OK},
	} {
		if got, e := num.Add(c.a, c.b); got != c.want || e != c.e {
			t.Errorf("Add(%d, %d) = %d, %d, want %d, %d", c.a, c.b, got, e, c.want, c.e)
		}
	}
}

func TestMul(t *testing.T) {
	for _, c := range []two{
		{6, 7, 42, api.OK},
		{-6, 7, -42, api.OK},
		{-6, -7, 42, api.OK},
		{0, math.MinInt64, 0, api.OK},
		{math.MaxInt64, 0, 0, api.OK},
		{math.MaxInt64, 1, math.MaxInt64, api.OK},
		{math.MaxInt64, -1, -math.MaxInt64, api.OK},
		{math.MaxInt64, 2, 0, api.ErrOver},
		{math.MinInt64, 1, math.MinInt64, api.OK},
		{math.MinInt64, -1, 0, api.ErrOver},
		{-1, math.MinInt64, 0, api.ErrOver},
		{math.MinInt64 / 2, 2, math.MinInt64, api.OK},
		{-2, math.MinInt64 / 2, 0, api.ErrOver},
		{1 << 31, 1 << 31, 1 << 62, api.OK},
		{1 << 32, 1 << 31, 0, api.ErrOver},
		{-1 << 32, 1 << 31, math.MinInt64, api.OK},
		{1 << 32, 1 << 32, 0, api.ErrOver},
		{3037000499, 3037000499, 9223372030926249001, api.OK},
		{3037000500, 3037000500, 0, api.ErrOver},
	} {
		if got, e := num.Mul(c.a, c.b); got != c.want || e != c.e {
			t.Errorf("Mul(%d, %d) = %d, %d, want %d, %d", c.a, c.b, got, e, c.want, c.e)
		}
	}
}

func TestSum(t *testing.T) {
	const most, least = math.MaxInt64, math.MinInt64
	for _, c := range []struct {
		name string
		l    []int64
		want int64
		e    api.Errno
	}{
		{"nil", nil, 0, api.OK},
		{"no number", []int64{}, 0, api.OK},
		{"one", []int64{-4}, -4, api.OK},
		{"three", []int64{5, -7, 9}, 7, api.OK},
		{"the greatest", []int64{most}, most, api.OK},
		{"the least", []int64{least}, least, api.OK},
		{"up to the greatest", []int64{most - 5, 2, 3}, most, api.OK},
		{"up to the greatest, and back", []int64{most, -1, 1}, most, api.OK},
		{"above", []int64{most, 1}, 0, api.ErrOver},
		{"above, and back", []int64{most, 1, -1}, 0, api.ErrOver},
		{"above in the midst", []int64{1, most, -5, 3}, 0, api.ErrOver},
		{"the same in another order", []int64{1, -5, most, 3}, most - 1, api.OK},
		{"below", []int64{least, -1}, 0, api.ErrOver},
		{"below, and back", []int64{least, -1, 1}, 0, api.ErrOver},
		{"round once", []int64{most, most, 2}, 0, api.ErrOver},
		{"both ends", []int64{least, most, 1}, 0, api.OK},
	} {
		was := append([]int64(nil), c.l...)
		if got, e := num.Sum(c.l); got != c.want || e != c.e {
			t.Errorf("%s: Sum(%d) = %d, %d, want %d, %d", c.name, c.l, got, e, c.want, c.e)
		}
		for i := range was {
			if c.l[i] != was[i] {
				t.Errorf("%s: Sum changed its list", c.name)
			}
		}
	}
}

func TestSumIsAddOneBehindTheOther(t *testing.T) {
	r := row(3)
	for range 5000 {
		l := make([]int64, r.next()%9)
		want, wantE := int64(0), api.OK
		for i := range l {
			l[i] = int64(r.sized())
			if r.next()%2 == 0 {
				l[i] = -l[i]
			}
			if wantE == api.OK {
				want, wantE = narrow(wideAdd(want, l[i]))
			}
		}
		if got, e := num.Sum(l); got != want || e != wantE {
			t.Fatalf("Sum(%d) = %d, %d, want %d, %d", l, got, e, want, wantE)
		}
	}
}

func TestLaidIsReadAsItWas(t *testing.T) {
	check := func(n uint64) {
		b := num.Put([]byte{1, 2}, n)
		if got, used, e := num.Get(b[2:]); got != n || used != len(b)-2 || e != api.OK {
			t.Fatalf("%d is read as %d, %d, %d", n, got, used, e)
		}
		for cut := 2; cut < len(b); cut++ {
			if got, used, e := num.Get(b[2:cut]); got != 0 || used != 0 || e != api.ErrShort {
				t.Fatalf("%d cut to %d bytes is read as %d, %d, %d", n, cut-2, got, used, e)
			}
		}
		if got, e := num.Get4(num.Put4(nil, uint32(n))); got != uint32(n) || e != api.OK {
			t.Fatalf("%d is read from four bytes as %d, %d", uint32(n), got, e)
		}
	}
	for _, n := range unsignedEdges() {
		check(n)
	}
	r := row(4)
	for range 20000 {
		check(r.sized())
	}
}

func TestLaidInARowIsReadInARow(t *testing.T) {
	l := unsignedEdges()
	var b []byte
	for _, n := range l {
		b = num.Put4(num.Put(b, n), uint32(n>>16))
	}
	for _, n := range l {
		got, used, e := num.Get(b)
		if got != n || e != api.OK {
			t.Fatalf("%d is read as %d, %d", n, got, e)
		}
		b = b[used:]
		if four, e := num.Get4(b); four != uint32(n>>16) || e != api.OK {
			t.Fatalf("%d is read from four bytes as %d, %d", uint32(n>>16), four, e)
		}
		b = b[4:]
	}
	if len(b) != 0 {
		t.Fatalf("%d bytes are left", len(b))
	}
}

// The least number has no opposite: what was added of it is taken away in two steps.
func takeAway(a, b int64) (int64, api.Errno) {
	if b == math.MinInt64 {
		return num.Sum([]int64{a, math.MaxInt64, 1})
	}
	return num.Add(a, -b)
}

func TestAddedIsTakenAwayAgain(t *testing.T) {
	check := func(a, b int64) {
		sum, e := num.Add(a, b)
		if e != api.OK {
			return
		}
		if got, e := takeAway(sum, b); got != a || e != api.OK {
			t.Fatalf("%d and %d are %d, but without the latter %d, %d", a, b, sum, got, e)
		}
	}
	for _, a := range edges() {
		for _, b := range edges() {
			check(a, b)
		}
	}
	r := row(5)
	for range 20000 {
		check(int64(r.sized()), -int64(r.sized()))
	}
}
