package journal_test

import (
	"fmt"
	"slices"
	"strings"
	"testing"

	"blazon/api"
	"blazon/crc"
	"blazon/disk"
	"blazon/journal"
	"blazon/num"
	"blazon/record"
)

// A call is a disk's, and what it is handed; one that begins with two is asked twice.
type call struct {
	order string
	data  []byte
}

func (c call) once(d *disk.Disk, w []string) api.Errno {
	switch w[0] {
	case "create":
		return d.Create(w[1])
	case "append":
		return d.Append(w[1], c.data)
	case "sync":
		return d.Sync(w[1])
	case "names":
		return d.SyncDir()
	case "rename":
		return d.Rename(w[1], w[2])
	case "remove":
		return d.Remove(w[1])
	}
	panic(c.order)
}

func (c call) on(d *disk.Disk) api.Errno {
	w := strings.Fields(c.order)
	if w[0] != "two" {
		return c.once(d, w)
	}
	e := c.once(d, w[1:])
	if e != api.OK && e != api.ErrCrash {
		e = c.once(d, w[1:])
	}
	return e
}

// done does calls, up to the first error.
func done(d *disk.Disk, l []call) api.Errno {
	for _, c := range l {
		if e := c.on(d); e != api.OK {
			return e
		}
	}
	return api.OK
}

func calls(orders ...string) []call {
	l := make([]call, len(orders))
	for i, s := range orders {
		l[i].order = s
	}
	return l
}

// backCalls are those that take away what is there.
func backCalls(d *disk.Disk) []call {
	l := calls("two names")
	for _, name := range d.List() {
		switch {
		case name == "~journal":
			l = slices.Insert(l, 0, call{order: "two remove ~journal"})
		case strings.HasPrefix(name, "~"):
			l = append(l, call{order: "two remove " + name})
		}
	}
	return append(l, call{order: "two names"})
}

// byHand does what Commit does, by calls that were written down.
func byHand(d *disk.Disk, ahead, behind []call) api.Errno {
	e := done(d, ahead)
	switch e {
	case api.OK:
		return done(d, behind)
	case api.ErrCrash:
		return e
	}
	if back := done(d, backCalls(d)); back != api.OK {
		return back
	}
	return e
}

// The bytes of two records: of a with the byte 1 and b with the byte 2, and their commit.
var (
	intentAB = []byte{13, 0, 0, 0, 0x44, 0x51, 0xd7, 0x53, 1,
		2, 1, 'a', 0xb7, 0xef, 0xdc, 0x83, 1, 'b', 0x0d, 0xbe, 0xd5, 0x1a}
	commitAB = []byte{4, 0, 0, 0, 0x17, 0xf4, 0x57, 0xb8, 2, 0x77, 0x8f, 0x17, 0x10}
)

func aheadAB() []call {
	return []call{
		{"create ~journal", nil}, {"append ~journal", intentAB}, {"sync ~journal", nil}, {"names", nil},
		{"create ~a", nil}, {"append ~a", []byte("1")}, {"sync ~a", nil},
		{"create ~b", nil}, {"append ~b", []byte("2")}, {"sync ~b", nil}, {"names", nil},
		{"append ~journal", commitAB}, {"sync ~journal", nil},
	}
}

func behindAB() []call {
	return calls("two rename ~a a", "two rename ~b b", "two names", "two remove ~journal", "two names")
}

// A trouble is what a disk is made to do: errors, and power that goes off.
type trouble struct {
	fault int
	e     api.Errno
	fuse  int
}

func (x trouble) of(d *disk.Disk) *disk.Disk {
	d.Fault(x.fault, x.e)
	d.Fuse(x.fuse)
	return d
}

// A boot is what is kept.
type boot struct {
	turns int
	kept  []int
}

var boots = []boot{{0, nil}, {0, []int{99, 99, 99, 99}}, {99, nil}, {99, []int{99, 99, 99, 99}}, {1, []int{4}}, {2, []int{0, 99}}, {3, []int{30, 1}}}

// wantAlike holds two disks against each other, and what came of them.
func wantAlike(t *testing.T, what string, got, want api.Errno, d, hand *disk.Disk, b boot) {
	t.Helper()
	if got != want || d.Calls() != hand.Calls() || d.Dead() != hand.Dead() {
		t.Fatalf("%s: %v, %d calls, dead %v, want %v, %d, %v", what, got, d.Calls(), d.Dead(), want, hand.Calls(), hand.Dead())
	}
	wantState(t, what, d, state(t, hand))
	for _, x := range []*disk.Disk{d, hand} {
		crash(t, x, b.turns, b.kept...)
	}
	wantState(t, fmt.Sprint(what, ", kept ", b), d, state(t, hand))
}

func old(t *testing.T, capacity int) *disk.Disk {
	t.Helper()
	return fresh(t, capacity, file("c", "three"), file("b", "two"), file("a", "one"))
}

// wantCommitAB holds Commit against the calls that were written down.
func wantCommitAB(t *testing.T, capacity int, x trouble, b boot) api.Errno {
	t.Helper()
	d, hand := x.of(old(t, capacity)), x.of(old(t, capacity))
	got := journal.Commit(d, []api.File{file("b", "2"), file("a", "1")})
	wantAlike(t, fmt.Sprint("with ", x), got, byHand(hand, aheadAB(), behindAB()), d, hand, b)
	return got
}

// P5.2: call by call, and what of it is sure.
func TestCallsOfCommit(t *testing.T) {
	for _, b := range boots {
		for fuse := range 20 {
			want(t, "Commit", wantCommitAB(t, 200, trouble{fuse: fuse}, b), map[bool]api.Errno{true: api.ErrCrash}[fuse > 0 && fuse < 19])
		}
	}
}

// An error of each call, whatever it is: ahead of the commit it is told, and behind it passed over.
func TestCommitWithFaults(t *testing.T) {
	for _, e := range []api.Errno{api.ErrFull, api.ErrNone, api.ErrThere, api.ErrArg, api.ErrSum, 77, -1} {
		for fault := 1; fault < 21; fault++ {
			expected := e
			if fault > 13 {
				expected = api.OK
			}
			for _, b := range boots {
				want(t, fmt.Sprint("fault ", fault), wantCommitAB(t, 200, trouble{fault, e, 0}, b), expected)
			}
		}
	}
}

// The power goes off while it goes back, or while a call is asked again.
func TestCommitWithFaultsAndFuses(t *testing.T) {
	for fault := 1; fault < 20; fault++ {
		for fuse := 1; fuse < 25; fuse++ {
			for _, b := range boots {
				wantCommitAB(t, 200, trouble{fault, api.ErrSum, fuse}, b)
			}
		}
	}
}

// An error that nobody made: wherever the room ends.
func TestCommitWithoutRoomAndFuses(t *testing.T) {
	for capacity := 11; capacity < 50; capacity++ {
		for fuse := range 22 {
			wantCommitAB(t, capacity, trouble{fuse: fuse}, boots[fuse%len(boots)])
			wantCommitAB(t, capacity, trouble{fault: fuse + 1, e: api.ErrThere}, boots[fuse%len(boots)])
		}
	}
}

// Two faults: one ahead of the commit, and one while it goes back, where it is passed over.
func TestFaultsWhileItGoesBack(t *testing.T) {
	for capacity := 11; capacity < 48; capacity++ {
		d := old(t, capacity)
		commit(t, "without room", d, api.ErrFull, file("a", "1"), file("b", "2"))
		for fault := 1; fault <= d.Calls()+1; fault++ {
			x := old(t, capacity)
			x.Fault(fault, api.ErrSum)
			e := journal.Commit(x, []api.File{file("a", "1"), file("b", "2")})
			if e != api.ErrFull && e != api.ErrSum || !journal.Clean(x) {
				t.Fatalf("room for %d, fault %d: %v", capacity, fault, e)
			}
			wantState(t, "it is back", x, "a=one b=two c=three")
		}
	}
}

// intent is an intent's payload, as the chapter tells it; commitOf that of its commit.
func intent(files ...api.File) []byte {
	s := crc.New()
	b := num.Put(nil, uint64(len(files)))
	for _, f := range files {
		b = append(num.Put(b, uint64(len(f.Name))), f.Name...)
		b = num.Put4(b, s.Of(f.Data))
	}
	return b
}

func commitOf(intent []byte) []byte { return num.Put4(nil, crc.New().Of(intent)) }

func laid(kind int, payload []byte) []byte {
	b, e := record.Put(crc.New(), nil, record.Rec{Kind: kind, Payload: payload})
	if e != api.OK {
		panic(e)
	}
	return b
}

// committed is a journal with an intent of these, and its commit.
func committed(files ...api.File) []byte {
	b := intent(files...)
	return append(laid(1, b), laid(2, commitOf(b))...)
}

// The calls that a change of any files has, by the chapter's words.
func aheadOf(files []api.File) []call {
	files = slices.Clone(files)
	slices.SortFunc(files, func(a, b api.File) int { return strings.Compare(a.Name, b.Name) })
	payload := intent(files...)
	l := []call{{"create ~journal", nil}, {"append ~journal", laid(1, payload)}, {"sync ~journal", nil}, {"names", nil}}
	for _, f := range files {
		l = append(l, call{"create ~" + f.Name, nil}, call{"append ~" + f.Name, f.Data}, call{"sync ~" + f.Name, nil})
	}
	return append(l, call{"names", nil}, call{"append ~journal", laid(2, commitOf(payload))}, call{"sync ~journal", nil})
}

func behindOf(d *disk.Disk, names ...string) []call {
	var l []call
	for _, name := range names {
		if slices.Contains(d.List(), "~"+name) {
			l = append(l, call{order: "two rename ~" + name + " " + name})
		}
	}
	return append(l, calls("two names", "two remove ~journal", "two names")...)
}

// Other names, and other bytes: the names rise, whatever order they came in, and a file without bytes has its Append.
func TestCallsOfOtherCommits(t *testing.T) {
	long, big := strings.Repeat("q", 23), strings.Repeat("0123456789", 1000)
	disks := []api.File{file("a", "1"), file("a-", "2"), file("ab", ""), file("b", big), file(long, "5"), file("journal", "6")}
	for _, l := range [][]api.File{
		{file("a", "")},
		{file(long, "x")},
		{file("b", big+"!"), file("a-", "y"), file("ab", "z"), file("a", "")},
		{file("a", "w"), file("a-", ""), file("ab", big), file("b", ""), file(long, "v")},
	} {
		var names []string
		for _, f := range l {
			names = append(names, f.Name)
		}
		slices.Sort(names)
		for fuse := range 13 + 4*len(l) {
			for i, b := range boots {
				x := trouble{fuse: fuse}
				if i == 0 {
					x = trouble{fault: fuse, e: api.ErrFull}
				}
				d, hand, whole := fresh(t, 90000, disks...), fresh(t, 90000, disks...), fresh(t, 90000, disks...)
				want(t, "what is ahead", done(whole, aheadOf(l)), api.OK)
				got := journal.Commit(x.of(d), l)
				wantAlike(t, fmt.Sprint(names, " with ", x), got, byHand(x.of(hand), aheadOf(l), behindOf(whole, names...)), d, hand, b)
			}
		}
	}
}
