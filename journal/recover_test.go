package journal_test

import (
	"bytes"
	"fmt"
	"slices"
	"strings"
	"testing"

	"blazon/api"
	"blazon/disk"
	"blazon/journal"
)

// The sources of the disks here, as they were and as they are to be.
const (
	oldABC = "a=one b=two c=three"
	newABC = "a=1 b=2 c=three"
)

func newAB() []api.File { return []api.File{file("a", "1"), file("b", "2")} }

// half is a disk with the three sources, hidden files and a journal with these bytes.
func half(t *testing.T, log []byte, hidden ...api.File) *disk.Disk {
	t.Helper()
	files := append([]api.File{file("a", "one"), file("b", "two"), file("c", "three")}, hidden...)
	return fresh(t, 400000, append(files, api.File{Name: "~journal", Data: log})...)
}

// recoverCalls are those of Recover on a disk that isn't clean: forward with names, or back without.
func recoverCalls(d *disk.Disk, names ...string) []call {
	if len(names) == 0 {
		return backCalls(d)
	}
	l := behindOf(d, names...)
	for _, name := range d.List() {
		if strings.HasPrefix(name, "~") && name != "~journal" && !slices.Contains(names, name[1:]) {
			l = append(l, call{order: "two remove " + name})
		}
	}
	return append(l, call{order: "two names"})
}

// wantRecoverCalls holds Recover against the calls that were written down, with faults and power failures.
func wantRecoverCalls(t *testing.T, what string, made func() *disk.Disk, names ...string) {
	t.Helper()
	l := recoverCalls(made(), names...)
	for fuse := range len(l) + 2 {
		for i, b := range boots {
			x := []trouble{{fuse: fuse}, {fuse, api.ErrFull, 0}, {fuse, api.ErrNone, fuse + 1}, {1, -5, fuse}}[i%4]
			d, hand := x.of(made()), x.of(made())
			f, got := journal.Recover(d)
			want := done(hand, l)
			if f != (got == api.OK && len(names) > 0) {
				t.Fatalf("%s with %v: Recover = %v, %v", what, x, f, got)
			}
			wantAlike(t, fmt.Sprint(what, " with ", x), got, want, d, hand, b)
		}
	}
}

// wantBack holds that a journal with these bytes isn't committed.
func wantBack(t *testing.T, what string, log []byte, hidden ...api.File) {
	t.Helper()
	d := half(t, log, hidden...)
	wantRecover(t, what, d, false, api.OK)
	wantState(t, what, d, oldABC)
	if d.Calls() != 3+len(hidden) {
		t.Fatalf("%s: %d calls", what, d.Calls())
	}
	wantRecover(t, what+", again", d, false, api.OK)
	if d.Calls() != 3+len(hidden) {
		t.Fatalf("%s: a clean disk has calls", what)
	}
}

// wantForward holds that a journal with these bytes is committed, and what comes of it.
func wantForward(t *testing.T, what, state string, log []byte, hidden ...api.File) {
	t.Helper()
	d := half(t, log, hidden...)
	wantRecover(t, what, d, true, api.OK)
	wantState(t, what, d, state)
	if d.Calls() != 4+len(hidden) {
		t.Fatalf("%s: %d calls", what, d.Calls())
	}
	wantRecover(t, what+", again", d, false, api.OK)
	crash(t, d, 0)
	wantState(t, what+", and it is sure", d, state)
}

func shadows(l ...api.File) []api.File {
	out := slices.Clone(l)
	for i := range out {
		out[i].Name = "~" + out[i].Name
	}
	return out
}

// P5.3: nothing is done to a disk that is clean, be there a fault or a fuse.
func TestRecoverOfWhatIsClean(t *testing.T) {
	d := fresh(t, 200, file("a", "1"), file("journal", string(committed(file("a", "2")))), file("a~", "2"))
	was := state(t, d)
	d.Fault(1, api.ErrFull)
	d.Fuse(2)
	for range 3 {
		wantRecover(t, "a clean disk", d, false, api.OK)
	}
	if d.Calls() != 0 {
		t.Fatalf("%d calls", d.Calls())
	}
	wantState(t, "a clean disk", d, was)
	want(t, "the fault is still there", d.SyncDir(), api.ErrFull)
}

func TestRecoverForward(t *testing.T) {
	log := committed(newAB()...)
	both := shadows(newAB()...)
	wantForward(t, "both shadows", newABC, log, both...)
	wantForward(t, "the first one was renamed", "a=one b=2 c=three", log, both[1])
	wantForward(t, "the second one alone was", "a=1 b=two c=three", log, both[0])
	wantForward(t, "both were renamed", oldABC, log)
	if string(log) != string(intentAB)+string(commitAB) {
		t.Fatalf("the journal is %x", log)
	}
	for name, behind := range map[string][]byte{
		"one more record":   laid(1, nil),
		"another intent":    laid(1, intent(file("c", "x"))),
		"another change":    committed(file("c", "x")),
		"a record of none":  laid(9, []byte("else")),
		"half a record":     laid(2, []byte("else"))[:10],
		"a byte":            {0},
		"bytes of any kind": bytes.Repeat([]byte{255}, 50),
		"many bytes":        make([]byte, 70000),
	} {
		wantForward(t, name+" behind the first two", newABC, append(bytes.Clone(log), behind...), both...)
	}
}

// What is neither the journal nor a shadow of the intent's is removed, behind all that goes forward.
func TestRecoverForwardWithOthers(t *testing.T) {
	log := committed(newAB()...)
	others := []api.File{file("~", "x"), file("~c", "y"), file("~~", "z"), file("~journal2", "w"), file("~ab", ""), file("~"+strings.Repeat("q", 23), "v")}
	wantForward(t, "others", newABC, log, append(others, shadows(newAB()...)...)...)
	wantForward(t, "others alone", oldABC, log, others...)
}

func TestRecoverForwardOfOtherNames(t *testing.T) {
	long := strings.Repeat("m", 23)
	for _, l := range [][]api.File{
		{file(long, "long")},
		{file("new", "a source that wasn't there")},
		{file("-", ""), file("a", ""), file("journal0", "j"), file("z~", "")},
		{file("a", strings.Repeat("big", 1000))},
	} {
		all := append(slices.Clone(l), file("b", "two"), file("c", "three"))
		if !slices.ContainsFunc(l, func(f api.File) bool { return f.Name == "a" }) {
			all = append(all, file("a", "one"))
		}
		slices.SortFunc(all, func(a, b api.File) int { return strings.Compare(a.Name, b.Name) })
		wantForward(t, text(l), text(all), committed(l...), shadows(l...)...)
	}
	var l []api.File
	for i := range 30 {
		l = append(l, file(fmt.Sprintf("a%02d", i), fmt.Sprint(i)))
	}
	wantForward(t, "30 sources", "a=one "+text(l)+" b=two c=three", committed(l...), shadows(l...)...)
}

// P5.3: what isn't committed, but for the intent's bytes.
func TestRecoverBack(t *testing.T) {
	payload := intent(newAB()...)
	first, second := laid(1, payload), laid(2, commitOf(payload))
	both := shadows(newAB()...)
	join := func(l ...[]byte) []byte { return slices.Concat(l...) }
	other := commitOf(payload)
	other[0] ^= 1
	for name, log := range map[string][]byte{
		"no bytes":                       nil,
		"an intent":                      first,
		"a commit":                       second,
		"the other way about":            join(second, first),
		"two intents":                    join(first, first),
		"two commits":                    join(second, second),
		"one between":                    join(first, laid(3, nil), second),
		"an intent between":              join(first, laid(1, nil), second),
		"one ahead":                      join(laid(3, nil), first, second),
		"a byte ahead":                   join([]byte{0}, first, second),
		"a byte between":                 join(first, []byte{0}, second),
		"the commit is cut off":          join(first, second[:len(second)-1]),
		"the commit's kind is 1":         join(first, laid(1, commitOf(payload))),
		"the commit's kind is 3":         join(first, laid(3, commitOf(payload))),
		"the commit's kind is 0":         join(first, laid(0, commitOf(payload))),
		"the intent's kind is 2":         join(laid(2, payload), second),
		"the intent's kind is 0":         join(laid(0, payload), second),
		"the intent's kind is 3":         join(laid(3, payload), second),
		"another sum":                    join(first, laid(2, other)),
		"a sum of the record":            join(first, laid(2, commitOf(first))),
		"no sum":                         join(first, laid(2, nil)),
		"three bytes of the sum":         join(first, laid(2, commitOf(payload)[:3])),
		"a byte behind the sum":          join(first, laid(2, append(commitOf(payload), 0))),
		"the sum's bytes the other way":  join(first, laid(2, []byte{0x10, 0x17, 0x8f, 0x77})),
		"another intent's commit":        join(first, laid(2, commitOf(intent(file("a", "1"))))),
		"another intent, and its commit": join(laid(1, append([]byte("x"), payload...)), laid(2, commitOf(append([]byte("x"), payload...)))),
		"nothing as an intent":           join(laid(1, nil), laid(2, commitOf(nil))),
	} {
		wantBack(t, name, log, both...)
		wantBack(t, name+", no shadows", log)
	}
}

// An intent may be, or it may not: whatever the commit says.
func TestRecoverBackOfWrongIntents(t *testing.T) {
	change := func(name string) []byte { return intent(file(name, "1"))[1:] }
	all := func(count byte, l ...[]byte) []byte { return append([]byte{count}, slices.Concat(l...)...) }
	for name, payload := range map[string][]byte{
		"no sources":                    {0},
		"no sources, and a byte":        {0, 0},
		"no sources, and one":           all(0, change("a")),
		"more are told than are there":  all(2, change("a")),
		"many are told":                 all(127, change("a"), change("b")),
		"more are there than are told":  all(1, change("a"), change("b")),
		"a byte behind the last one":    all(1, change("a"), []byte{0}),
		"the most that can be told":     append(bytes.Repeat([]byte{255}, 9), append([]byte{1}, change("a")...)...),
		"a number that is too long":     append(bytes.Repeat([]byte{255}, 10), change("a")...),
		"a number that is cut off":      {129},
		"a count that isn't short":      append([]byte{129, 0}, change("a")...),
		"a length that isn't short":     {1, 129, 0, 'a', 1, 2, 3, 4},
		"nothing but the count":         {1},
		"a length that is cut off":      {1, 129},
		"a length alone":                {1, 1},
		"a length of more than is left": {1, 6, 'a', 1, 2, 3, 4},
		"a length that takes the sum":   {1, 5, 'a', 1, 2, 3, 4},
		"the greatest length":           append([]byte{1}, append(bytes.Repeat([]byte{255}, 9), 1, 'a', 1, 2, 3, 4)...),
		"a length of 2^63":              append([]byte{1}, append(bytes.Repeat([]byte{128}, 9), 1, 'a', 1, 2, 3, 4)...),
		"a length of 2^63 - 1":          append([]byte{1}, append(bytes.Repeat([]byte{255}, 8), 127, 'a', 1, 2, 3, 4)...),
		"a sum that is cut off":         {1, 1, 'a', 1, 2, 3},
		"no sum":                        {1, 1, 'a'},
		"alike":                         all(2, change("a"), change("a")),
		"falling":                       all(2, change("b"), change("a")),
		"falling behind others":         all(3, change("a"), change("c"), change("b")),
		"alike behind others":           all(3, change("a"), change("b"), change("b")),
		"no name":                       all(1, change("")),
		"no name, ahead of others":      all(2, change(""), change("a")),
		"a shadow":                      all(1, change("~a")),
		"the journal":                   all(1, change("~journal")),
		"a source called journal":       all(1, change("journal")),
		"journal behind others":         all(2, change("a"), change("journal")),
		"24 bytes":                      all(1, change(strings.Repeat("a", 24))),
		"a great letter":                all(2, change("A"), change("a")),
		"a byte that is none":           all(1, change("a\x00")),
		"a blank":                       all(2, change("a"), change("a b")),
	} {
		log := append(laid(1, payload), laid(2, commitOf(payload))...)
		wantBack(t, name, log)
		wantBack(t, name, log, file("~a", "1"), file("~b", "1"))
		wantBack(t, name, log, file("~b", "x"), file("~", "y"), file("~"+strings.Repeat("a", 23), "z"))
	}
}

// Each shadow of the intent's that is there has its sum; whatever the others are.
func TestRecoverLooksAtShadows(t *testing.T) {
	log := committed(newAB()...)
	for _, l := range [][]api.File{
		{file("~a", "x"), file("~b", "2")},
		{file("~a", "1"), file("~b", "x")},
		{file("~a", ""), file("~b", "2")},
		{file("~a", "1"), file("~b", "")},
		{file("~b", "")},
		{file("~a", "11")},
		{file("~a", "2"), file("~b", "1")},
	} {
		wantBack(t, text(l), log, l...)
	}
	wantForward(t, "another's shadow", newABC, log, file("~a", "1"), file("~b", "2"), file("~c", "any"))
	wantForward(t, "no bytes, as is told", "a= b=two c=three", committed(file("a", "")), file("~a", ""))
	wantBack(t, "bytes, where none are told", committed(file("a", "")), file("~a", "x"))
}

func TestRecoverWithoutAJournal(t *testing.T) {
	for _, names := range []string{"~", "~a", "~a ~b ~c", "~a ~journal2 ~z ~~", "~" + strings.Repeat("j", 23)} {
		var files []api.File
		for _, name := range strings.Fields(names) {
			files = append(files, file(name, "x"))
		}
		made := func() *disk.Disk {
			return fresh(t, 200, append(files, file("a", "one"), file("journal", "j"))...)
		}
		d := made()
		wantRecover(t, names, d, false, api.OK)
		wantState(t, names, d, "a=one journal=j")
		if d.Calls() != 2+len(files) {
			t.Fatalf("%s: %d calls", names, d.Calls())
		}
		wantRecoverCalls(t, names, made)
	}
}

// P5.3: call by call, with faults and power failures.
func TestCallsOfRecover(t *testing.T) {
	log := committed(newAB()...)
	both := shadows(newAB()...)
	others := []api.File{file("~z", "x"), file("~", "y"), file("~aa", ""), file("~k", "k")}
	for name, hidden := range map[string][]api.File{
		"both shadows": both, "one": both[1:], "none": nil, "others": others, "both and others": append(slices.Clone(others), both...),
	} {
		wantRecoverCalls(t, "forward: "+name, func() *disk.Disk { return half(t, log, hidden...) }, "a", "b")
		wantRecoverCalls(t, "back: "+name, func() *disk.Disk { return half(t, log[:20], hidden...) })
	}
	wantRecoverCalls(t, "back: a wrong shadow", func() *disk.Disk { return half(t, log, file("~a", "x"), file("~b", "2")) })
}

// P1: whatever the journal's bytes are, Recover ends; and it goes forward only with what a change has laid.
func TestRecoverOfAnyBytes(t *testing.T) {
	r := row(1)
	good := committed(newAB()...)
	forward := 0
	for i := range 20000 {
		log := bytes.Clone(good)
		switch {
		case i%4 == 0:
			log = r.bytes(r.below(60))
		case i%4 == 1: // an intent of bytes at random, and its commit
			payload := bytes.Clone(good[9:22])
			payload[r.below(len(payload))] = byte(r.below(256))
			payload[r.below(len(payload))] = byte(r.below(4))
			log = append(laid(1, payload), laid(2, commitOf(payload))...)
		default:
			log[r.below(len(log))] ^= byte(r.below(256))
			log = append(log[:len(log)-r.below(2)], r.bytes(r.below(3))...)
		}
		d := half(t, log, shadows(newAB()...)...)
		f, e := journal.Recover(d)
		want(t, "Recover", e, api.OK)
		if !journal.Clean(d) {
			t.Fatalf("not clean behind %x", log)
		}
		if f {
			forward++
		}
		if i%4 != 1 && f != bytes.HasPrefix(log, good) {
			t.Fatalf("forward = %v with %x", f, log)
		}
		if !f {
			wantState(t, fmt.Sprintf("back with %x", log), d, oldABC)
		}
	}
	if forward < 30 {
		t.Fatalf("only %d went forward", forward)
	}
}

// One byte of the first two records that is turned about: it isn't committed.
func TestRecoverOfTurnedBytes(t *testing.T) {
	good := committed(newAB()...)
	for i := range good {
		for bit := range 8 {
			log := bytes.Clone(good)
			log[i] ^= 1 << bit
			wantBack(t, fmt.Sprint("byte ", i, " bit ", bit), log, shadows(newAB()...)...)
		}
	}
	for n := range good {
		wantBack(t, fmt.Sprint("cut off at ", n), good[:n], shadows(newAB()...)...)
	}
}
