package journal_test

import (
	"fmt"
	"strconv"
	"testing"

	"blazon/api"
	"blazon/disk"
	"blazon/journal"
)

// A row of numbers that is the same in each run.
type row uint64

func (r *row) next() uint64 {
	x := uint64(*r)
	x ^= x << 13
	x ^= x >> 7
	x ^= x << 17
	*r = row(x)
	return x
}

func (r *row) below(n int) int { return int(r.next() >> 20 % uint64(n)) }

func (r *row) bytes(n int) []byte {
	b := make([]byte, n)
	for i := range b {
		b[i] = byte(r.next() >> 32)
	}
	return b
}

// recovered brings a disk back for good: its sources are one of two, and stay so.
func recovered(t *testing.T, what string, d *disk.Disk, a, b string) string {
	t.Helper()
	_, e := journal.Recover(d)
	want(t, what+": Recover", e, api.OK)
	got := sources(t, d)
	if !journal.Clean(d) || got != a && got != b {
		t.Fatalf("%s: the disk has %q", what, state(t, d))
	}
	crash(t, d, 0)
	wantState(t, what+", and it is sure", d, got)
	wantRecover(t, what+", again", d, false, api.OK)
	return got
}

// P5.4: the power goes off in a Commit, and then in a Recover, anywhere; and whatever is kept.
func TestPowerGoesOffTwice(t *testing.T) {
	seen := map[string]int{}
	for first := 1; first < 20; first++ {
		for turns := range 8 {
			for _, kept := range [][]int{nil, {99}, {99, 99, 99}, {10, 0, 99}, {25}, {0, 99}} {
				for second := range 10 {
					d := old(t, 200)
					d.Fuse(first)
					e := journal.Commit(d, newAB())
					if (e == api.ErrCrash) != (first < 19) {
						t.Fatalf("fuse %d: %v", first, e)
					}
					what := fmt.Sprint("fuses ", first, " and ", second, ", kept ", turns, kept)
					crash(t, d, turns, kept...)
					d.Fuse(second)
					f, e := journal.Recover(d)
					if e != api.OK {
						want(t, what, e, api.ErrCrash)
						crash(t, d, second*turns%5, kept...)
					}
					got := recovered(t, what, d, oldABC, newABC)
					if f && got != newABC || first == 19 && got != newABC {
						t.Fatalf("%s: forward, and %q", what, got)
					}
					seen[got]++
				}
			}
		}
	}
	if len(seen) != 2 || seen[oldABC] < 1000 || seen[newABC] < 1000 {
		t.Fatal(seen)
	}
}

// Behind the commit's Sync nothing goes back; ahead of its Append nothing goes forward.
func TestWhereItIsCommitted(t *testing.T) {
	for fuse := 1; fuse < 20; fuse++ {
		for _, b := range boots {
			d := old(t, 200)
			d.Fuse(fuse)
			journal.Commit(d, newAB())
			crash(t, d, b.turns, b.kept...)
			got := recovered(t, strconv.Itoa(fuse), d, oldABC, newABC)
			if fuse < 13 && got != oldABC || fuse > 13 && got != newABC {
				t.Fatalf("fuse %d, kept %v: %q", fuse, b, got)
			}
		}
	}
}

// P5.4: behind a Commit that answered OK they are as they were to be; behind another error than ErrCrash as they were.
func TestPowerGoesOffBehindAnAnswer(t *testing.T) {
	for _, capacity := range []int{11, 30, 46, 47, 48, 200} {
		for fault := range 22 {
			for _, b := range boots {
				d := old(t, capacity)
				d.Fault(fault, api.ErrThere)
				want, e := oldABC, journal.Commit(d, newAB())
				if e == api.OK {
					want = newABC
				}
				what := fmt.Sprint("room for ", capacity, ", fault ", fault, ": ", e)
				if e == api.ErrCrash || !journal.Clean(d) {
					t.Fatalf("%s: %q", what, state(t, d))
				}
				wantState(t, what, d, want)
				crash(t, d, b.turns, b.kept...)
				wantRecover(t, what, d, false, api.OK)
				wantState(t, what+", and it is sure", d, want)
			}
		}
	}
}

// life is a disk in the hands of chance, and what its sources may be.
type life struct {
	row
	d        *disk.Disk
	was, may string
	n        int
}

// change is some of the sources with new bytes, and what all are with them.
func (x *life) change(t *testing.T) (l []api.File, next string) {
	t.Helper()
	all, e := journal.Sources(x.d)
	want(t, "Sources", e, api.OK)
	for i := range all {
		if x.below(3) > 0 {
			x.n++
			all[i].Data = []byte(strconv.Itoa(x.n))
			l = append([]api.File{all[i]}, l...)
		}
	}
	return l, text(all)
}

// trouble is a fault, and a fuse, or none.
func (x *life) trouble() {
	x.d.Fuse(0)
	x.d.Fault(0, api.ErrSum)
	if x.below(3) > 0 {
		x.d.Fuse(1 + x.below(40))
	}
	if x.below(3) > 0 {
		x.d.Fault(1+x.below(30), api.Errno(1+x.below(30)))
	}
}

func (x *life) boot(t *testing.T) {
	t.Helper()
	kept := make([]int, x.below(6))
	for i := range kept {
		kept[i] = x.below(40) - 1
	}
	crash(t, x.d, x.below(9)-1, kept...)
}

// commit does a Commit on a clean disk, whatever comes of it.
func (x *life) commit(t *testing.T) {
	t.Helper()
	l, next := x.change(t)
	if len(l) == 0 {
		return
	}
	x.trouble()
	switch journal.Commit(x.d, l) {
	case api.OK:
		x.was, x.may = next, next
	case api.ErrCrash:
		x.may = next
	}
}

// heal brings the disk back, with power failures among it, till it is clean for good.
func (x *life) heal(t *testing.T) {
	t.Helper()
	for {
		if x.d.Dead() || x.below(2) == 0 {
			x.boot(t)
		}
		x.trouble()
		f, e := journal.Recover(x.d)
		if f {
			x.was = x.may
		}
		if e == api.OK {
			break
		}
		want(t, "Recover", e, api.ErrCrash)
	}
	x.was = recovered(t, "at last", x.d, x.was, x.may)
	x.may = x.was
}

// P5.4: whatever runs, and however often: never a mixture, and never anything else.
func TestLives(t *testing.T) {
	for seed := range 300 {
		x := &life{row: row(seed + 1)}
		var files []api.File
		for i := range 1 + x.below(5) {
			files = append(files, file(string(rune('a'+i)), "0"))
		}
		x.d = fresh(t, 40+x.below(150), files...)
		x.was = text(files)
		x.may = x.was
		for range 40 {
			x.commit(t)
			if !x.d.Dead() && journal.Clean(x.d) {
				wantState(t, "between", x.d, x.was)
			}
			x.heal(t)
		}
	}
}
