package disk_test

import (
	"bytes"
	"math"
	"runtime"
	"slices"
	"strconv"
	"strings"
	"testing"

	"blazon/api"
	"blazon/disk"
)

// state is what a disk shows: name=bytes, rising, with blanks between; off, if the power is.
func state(d *disk.Disk) string {
	if d.Dead() {
		return "off"
	}
	var l []string
	for _, name := range d.List() {
		b, e := d.Read(name)
		l = append(l, name+"="+string(b))
		if e != api.OK {
			return name + " can't be read"
		}
	}
	return strings.Join(l, " ")
}

func wantState(t *testing.T, d *disk.Disk, want string) {
	t.Helper()
	if got := state(d); got != want {
		t.Fatalf("the disk has %q, want %q", got, want)
	}
}

// want holds that all of these are the error e.
func want(t *testing.T, e api.Errno, got ...api.Errno) {
	t.Helper()
	for i, g := range got {
		if g != e {
			t.Fatalf("call %d: %v, want %v", i, g, e)
		}
	}
}

func ok(t *testing.T, got ...api.Errno) { t.Helper(); want(t, api.OK, got...) }

// crash takes the power off with the next call that changes.
func crash(t *testing.T, d *disk.Disk) {
	t.Helper()
	d.Fuse(1)
	want(t, api.ErrCrash, d.SyncDir())
}

func reboot(t *testing.T, d *disk.Disk, turns int, kept ...int) {
	t.Helper()
	crash(t, d)
	ok(t, d.Boot(turns, kept))
}

func file(name, data string) api.File { return api.File{Name: name, Data: []byte(data)} }

func fresh(t *testing.T, capacity int, files ...api.File) *disk.Disk {
	t.Helper()
	d := disk.New(files, capacity)
	if d == nil {
		t.Fatal("New answers nil")
	}
	return d
}

// many is n files f0, f1, .. without bytes.
func many(n int) []api.File {
	l := make([]api.File, n)
	for i := range l {
		l[i].Name = "f" + strconv.Itoa(i)
	}
	return l
}

// The six calls that change, each of which changes a disk that has a and b.
var changes = []struct {
	name string
	call func(d *disk.Disk) api.Errno
}{
	{"Create", func(d *disk.Disk) api.Errno { return d.Create("new") }},
	{"Append", func(d *disk.Disk) api.Errno { return d.Append("a", []byte("more")) }},
	{"Sync", func(d *disk.Disk) api.Errno { return d.Sync("a") }},
	{"SyncDir", func(d *disk.Disk) api.Errno { return d.SyncDir() }},
	{"Rename", func(d *disk.Disk) api.Errno { return d.Rename("a", "b") }},
	{"Remove", func(d *disk.Disk) api.Errno { return d.Remove("a") }},
}

func TestName(t *testing.T) {
	const good = "abcdefghijklmnopqrstuvwxyz0123456789-.~"
	for c := range 256 {
		want := strings.IndexByte(good, byte(c)) >= 0
		for _, s := range []string{string([]byte{byte(c)}), "a" + string([]byte{byte(c)}), string([]byte{byte(c)}) + "a"} {
			if got := disk.Name(s); got != want {
				t.Errorf("Name(%q) = %v", s, got)
			}
		}
	}
	for n := range 60 {
		for _, s := range []string{strings.Repeat("a", n), strings.Repeat("~", n)} {
			if got := disk.Name(s); got != (n >= 1 && n <= 24) {
				t.Errorf("Name of %d bytes = %v", n, got)
			}
		}
	}
	for _, s := range []string{"é", "a b", "a\x00", "\xff", "\x80a", "A", "a/b", "_", "a\n", strings.Repeat("a", 23) + "A", strings.Repeat("é", 12), strings.Repeat("a", 1<<20)} {
		if disk.Name(s) {
			t.Errorf("Name(%.30q) = true", s)
		}
	}
	for _, s := range []string{".", "..", "-", "~", "~journal", "0", "a.b-c~9", strings.Repeat("z", 23) + "9"} {
		if !disk.Name(s) {
			t.Errorf("Name(%q) = false", s)
		}
	}
}

func TestNewOfWhatIsNone(t *testing.T) {
	for _, c := range []struct {
		why      string
		files    []api.File
		capacity int
	}{
		{"capacity below 0", nil, -1},
		{"least capacity", nil, math.MinInt},
		{"capacity above MaxDisk", nil, api.MaxDisk + 1},
		{"greatest capacity", nil, math.MaxInt},
		{"capacity above MaxDisk, with files", []api.File{file("a", "x")}, api.MaxDisk + 1},
		{"too many files", many(65), 100},
		{"no name", []api.File{file("", "")}, 100},
		{"a great letter", []api.File{file("a", ""), file("B", "")}, 100},
		{"a long name", []api.File{file(strings.Repeat("a", 25), "")}, 100},
		{"twice", []api.File{file("a", ""), file("b", ""), file("a", "")}, 100},
		{"twice with other bytes", []api.File{file("a", "x"), file("a", "y")}, 100},
		{"one byte too many", []api.File{file("a", "abc")}, 2},
		{"a byte without room", []api.File{file("a", "a")}, 0},
		{"too many bytes in all", []api.File{file("a", "abc"), file("b", "abc")}, 5},
		{"too many bytes in the last one", []api.File{file("a", "abc"), file("b", ""), file("c", "d")}, 3},
		{"more than MaxDisk bytes", []api.File{{Name: "a", Data: make([]byte, api.MaxDisk+1)}}, api.MaxDisk},
	} {
		if disk.New(c.files, c.capacity) != nil {
			t.Errorf("%s: a disk", c.why)
		}
	}
}

func TestNew(t *testing.T) {
	for _, c := range []struct {
		why      string
		files    []api.File
		capacity int
		state    string
		used     int
	}{
		{"nothing", nil, 0, "", 0},
		{"no files", []api.File{}, api.MaxDisk, "", 0},
		{"just full", []api.File{file("b", "xyz"), file("a", "ab")}, 5, "a=ab b=xyz", 5},
		{"a file without bytes and room", []api.File{file("a", "")}, 0, "a=", 0},
		{"a long name", []api.File{file(strings.Repeat("a", 24), "q")}, 9, strings.Repeat("a", 24) + "=q", 1},
		{"all bytes", []api.File{file("~", "\x00\xff\n ")}, 9, "~=\x00\xff\n ", 4},
		{"names by their bytes", []api.File{file("a", ""), file("~", ""), file("b", ""), file("10", ""), file("9", ""), file("aa", ""), file(".", ""), file("-", "")}, 9, "-= .= 10= 9= a= aa= b= ~=", 0},
	} {
		d := fresh(t, c.capacity, c.files...)
		if got := state(d); got != c.state || d.Used() != c.used || d.Dead() || d.Calls() != 0 {
			t.Errorf("%s: %q, Used = %d, Calls = %d", c.why, got, d.Used(), d.Calls())
		}
	}
	if d := disk.New(many(64), 0); d == nil || len(d.List()) != 64 {
		t.Error("64 files are no disk")
	}
	if d := disk.New([]api.File{{Name: "a", Data: make([]byte, api.MaxDisk)}}, api.MaxDisk); d == nil || d.Used() != api.MaxDisk {
		t.Error("MaxDisk bytes are no disk")
	}
}

func TestNewIsSure(t *testing.T) {
	d := fresh(t, 9, file("b", "xyz"), file("a", "ab"))
	reboot(t, d, 0)
	wantState(t, d, "a=ab b=xyz")
}

func TestCreate(t *testing.T) {
	d := fresh(t, 5, file("a", "abc"))
	ok(t, d.Create("b"), d.Create("~"), d.Create(strings.Repeat("0", 24)))
	wantState(t, d, strings.Repeat("0", 24)+"= a=abc b= ~=")
	want(t, api.ErrThere, d.Create("a"), d.Create("b"))
	want(t, api.ErrArg, d.Create(""), d.Create("B"), d.Create("a/b"), d.Create(strings.Repeat("a", 25)), d.Create("\xff"))
	wantState(t, d, strings.Repeat("0", 24)+"= a=abc b= ~=")
	ok(t, d.Remove("a"), d.Create("a"))
	wantState(t, d, strings.Repeat("0", 24)+"= a= b= ~=")
}

func TestCreateOfTooMany(t *testing.T) {
	d := fresh(t, 5, many(63)...)
	ok(t, d.Create("x"))
	want(t, api.ErrFull, d.Create("y"))
	want(t, api.ErrThere, d.Create("x"), d.Create("f0"))
	want(t, api.ErrArg, d.Create("Y"), d.Create(""))
	ok(t, d.Rename("f0", "f1"), d.Create("y"))
	want(t, api.ErrFull, d.Create("z"))
	ok(t, d.Remove("y"), d.Create("z"))
	if len(d.List()) != 64 {
		t.Fatalf("%d names", len(d.List()))
	}
	d = fresh(t, 0, many(64)...)
	want(t, api.ErrFull, d.Create("y"))
}

func TestAppend(t *testing.T) {
	d := fresh(t, 8, file("a", "abc"), file("b", ""))
	want(t, api.ErrNone, d.Append("c", nil), d.Append("c", make([]byte, 9)), d.Append("", []byte("x")), d.Append("A", nil))
	want(t, api.ErrFull, d.Append("a", []byte("123456")), d.Append("b", []byte("123456")), d.Append("b", make([]byte, api.MaxDisk+1)))
	wantState(t, d, "a=abc b=")
	ok(t, d.Append("b", []byte("12")), d.Append("a", []byte("de")), d.Append("b", []byte("3")))
	wantState(t, d, "a=abcde b=123")
	ok(t, d.Append("a", nil), d.Append("b", []byte{}))
	want(t, api.ErrFull, d.Append("a", []byte("x")), d.Append("b", []byte("x")))
	wantState(t, d, "a=abcde b=123")
	ok(t, d.Remove("b"), d.Append("a", []byte("678")))
	wantState(t, d, "a=abcde678")
}

// Room is free as soon as a file has no name, though it may come back: then there is more than fits.
func TestAppendOnAnOverfullDisk(t *testing.T) {
	d := fresh(t, 4, file("a", "abcd"))
	ok(t, d.Create("b"), d.SyncDir(), d.Remove("a"), d.Append("b", []byte("1234")), d.Sync("b"))
	if d.Used() != 4 {
		t.Fatalf("Used = %d", d.Used())
	}
	reboot(t, d, 0)
	wantState(t, d, "a=abcd b=1234")
	if d.Used() != 8 {
		t.Fatalf("Used = %d", d.Used())
	}
	want(t, api.ErrFull, d.Append("a", []byte("x")), d.Append("a", nil))
	ok(t, d.Remove("b"), d.Append("a", nil))
	want(t, api.ErrFull, d.Append("a", []byte("x")))
}

func TestRename(t *testing.T) {
	d := fresh(t, 9, file("a", "1"), file("b", "2"))
	want(t, api.ErrNone, d.Rename("c", "a"), d.Rename("c", "c"), d.Rename("c", "C"), d.Rename("", ""), d.Rename("A", "b"))
	want(t, api.ErrArg, d.Rename("a", ""), d.Rename("a", "A"), d.Rename("a", strings.Repeat("a", 25)))
	wantState(t, d, "a=1 b=2")
	ok(t, d.Rename("a", "a"))
	wantState(t, d, "a=1 b=2")
	ok(t, d.Rename("a", "c"))
	wantState(t, d, "b=2 c=1")
	ok(t, d.Rename("c", "b"))
	wantState(t, d, "b=1")
	want(t, api.ErrNone, d.Rename("c", "b"), d.Remove("a"))
	if d.Used() != 1 {
		t.Fatalf("Used = %d", d.Used())
	}
	ok(t, d.Rename("b", strings.Repeat("a", 24)))
	wantState(t, d, strings.Repeat("a", 24)+"=1")
}

func TestRemoveAndSync(t *testing.T) {
	d := fresh(t, 9, file("a", "1"), file("b", "2"))
	want(t, api.ErrNone, d.Remove("c"), d.Remove(""), d.Remove("A"), d.Sync("c"), d.Sync(""), d.Sync("A"))
	ok(t, d.Sync("a"), d.Sync("a"), d.SyncDir(), d.SyncDir())
	wantState(t, d, "a=1 b=2")
	ok(t, d.Remove("a"))
	want(t, api.ErrNone, d.Remove("a"), d.Sync("a"))
	wantState(t, d, "b=2")
	ok(t, d.Remove("b"), d.SyncDir())
	wantState(t, d, "")
}

func TestRead(t *testing.T) {
	d := fresh(t, 9, file("a", "1"), file("b", ""))
	for name, want := range map[string]struct {
		data string
		e    api.Errno
	}{"a": {"1", api.OK}, "b": {"", api.OK}, "c": {"", api.ErrNone}, "": {"", api.ErrNone}, "A": {"", api.ErrNone}} {
		if b, e := d.Read(name); string(b) != want.data || e != want.e {
			t.Errorf("Read(%q) = %q, %v", name, b, e)
		}
	}
	if d.Calls() != 0 {
		t.Errorf("reading is counted: %d", d.Calls())
	}
	crash(t, d)
	for _, name := range []string{"a", "c", ""} {
		if b, e := d.Read(name); len(b) != 0 || e != api.ErrCrash {
			t.Errorf("Read(%q) = %q, %v", name, b, e)
		}
	}
}

func TestCallsAreCounted(t *testing.T) {
	d := fresh(t, 9, file("a", "1"), file("b", "2"))
	n := 0
	for range 2 {
		for _, c := range changes {
			c.call(d)
			n++
			if d.Calls() != n {
				t.Fatalf("behind %s Calls = %d, want %d", c.name, d.Calls(), n)
			}
		}
	}
	d.Create("")
	d.Append("none", nil)
	d.Rename("none", "")
	if d.Calls() != n+3 {
		t.Fatalf("calls with errors: Calls = %d, want %d", d.Calls(), n+3)
	}
	d.Read("a")
	d.List()
	d.Used()
	d.Dead()
	d.Fuse(0)
	d.Fault(0, api.OK)
	d.Boot(0, nil)
	if d.Calls() != n+3 {
		t.Fatalf("calls that don't change: Calls = %d, want %d", d.Calls(), n+3)
	}
	d.Fault(1, api.ErrSum)
	d.SyncDir()
	d.Fuse(1)
	d.SyncDir()
	for _, c := range changes {
		want(t, api.ErrCrash, c.call(d))
	}
	if d.Calls() != n+5 {
		t.Fatalf("a fault and a fuse: Calls = %d, want %d", d.Calls(), n+5)
	}
	ok(t, d.Boot(0, nil), d.SyncDir())
	if d.Calls() != n+6 {
		t.Fatalf("behind Boot: Calls = %d, want %d", d.Calls(), n+6)
	}
}

func TestFuseGoesOffWithTheNthCall(t *testing.T) {
	for n := 1; n <= 20; n++ {
		d := fresh(t, 9, file("a", "1"), file("b", "2"))
		ok(t, d.SyncDir(), d.Sync("a"))
		d.Fuse(n)
		for i := 1; i < n; i++ {
			d.Read("a")
			if e := d.Sync([]string{"a", "none"}[i%2]); e == api.ErrCrash || d.Dead() {
				t.Fatalf("Fuse(%d) goes off with call %d", n, i)
			}
		}
		want(t, api.ErrCrash, d.Sync("a"), d.Sync("a"))
		if !d.Dead() || d.Calls() != 2+n {
			t.Fatalf("Fuse(%d): Dead = %v, Calls = %d", n, d.Dead(), d.Calls())
		}
	}
}

// Whatever the call is: it does nothing, neither with a fuse nor with a fault.
func TestFuseAndFaultLetNothingBeDone(t *testing.T) {
	for _, c := range changes {
		d := fresh(t, 9, file("a", "1"), file("b", "2"))
		ok(t, d.Append("a", []byte("x")))
		d.Fault(1, api.ErrFull)
		want(t, api.ErrFull, c.call(d))
		wantState(t, d, "a=1x b=2")
		d.Fuse(1)
		want(t, api.ErrCrash, c.call(d))
		wantState(t, d, "off")
		ok(t, d.Boot(9, nil))
		wantState(t, d, "a=1 b=2")
	}
}

// SyncDir with a fault makes no name sure.
func TestFaultOfSyncDir(t *testing.T) {
	d := fresh(t, 9, file("a", "1"))
	ok(t, d.Remove("a"), d.Create("b"))
	d.Fault(1, api.ErrFull)
	want(t, api.ErrFull, d.SyncDir())
	reboot(t, d, 0)
	wantState(t, d, "a=1")
}

func TestErrorsOfFuseAndFaultComeFirst(t *testing.T) {
	d := fresh(t, 0, file("a", ""))
	wrong := []func() api.Errno{
		func() api.Errno { return d.Create("") },
		func() api.Errno { return d.Create("a") },
		func() api.Errno { return d.Append("none", nil) },
		func() api.Errno { return d.Append("a", []byte("x")) },
		func() api.Errno { return d.Sync("none") },
		func() api.Errno { return d.Rename("none", "") },
		func() api.Errno { return d.Rename("a", "") },
		func() api.Errno { return d.Remove("none") },
	}
	for i, call := range wrong {
		d.Fault(1, api.ErrSum)
		if e := call(); e != api.ErrSum {
			t.Errorf("wrong call %d with a fault: %v", i, e)
		}
		d.Fuse(1)
		if e := call(); e != api.ErrCrash {
			t.Errorf("wrong call %d with a fuse: %v", i, e)
		}
		if e := call(); e != api.ErrCrash {
			t.Errorf("wrong call %d without power: %v", i, e)
		}
		ok(t, d.Boot(0, nil))
	}
}

var noWait = []int{0, -1, math.MinInt, 1<<40 + 1, math.MaxInt}

func TestFuseIsTakenAway(t *testing.T) {
	for _, n := range append(noWait, 1<<40) {
		d := fresh(t, 9)
		d.Fuse(1)
		d.Fuse(n)
		for range 5 {
			ok(t, d.SyncDir())
		}
	}
	d := fresh(t, 9)
	d.Fuse(1)
	d.Fuse(3)
	ok(t, d.SyncDir(), d.SyncDir())
	d.Fuse(2)
	ok(t, d.SyncDir())
	want(t, api.ErrCrash, d.SyncDir())
}

func TestFault(t *testing.T) {
	for n := 1; n <= 10; n++ {
		for _, e := range []api.Errno{api.ErrArg, api.ErrFull, api.ErrRepair, 99, -1, math.MinInt} {
			d := fresh(t, 9, file("a", "1"))
			ok(t, d.SyncDir())
			d.Fault(n, e)
			for range n - 1 {
				ok(t, d.Sync("a"))
			}
			want(t, e, d.Sync("a"))
			for range 12 {
				ok(t, d.Sync("a"))
			}
			if d.Dead() {
				t.Fatal("a fault takes the power off")
			}
		}
	}
}

func TestFaultIsTakenAway(t *testing.T) {
	take := []func(d *disk.Disk){
		func(d *disk.Disk) { d.Fault(1, api.OK) },
		func(d *disk.Disk) { d.Fault(1, api.ErrCrash) },
		func(d *disk.Disk) { d.Fault(1<<40, api.ErrSum) },
	}
	for _, n := range noWait {
		take = append(take, func(d *disk.Disk) { d.Fault(n, api.ErrSum) })
	}
	for i, f := range take {
		d := fresh(t, 9)
		d.Fault(1, api.ErrFull)
		f(d)
		for range 5 {
			if e := d.SyncDir(); e != api.OK {
				t.Fatalf("way %d: %v", i, e)
			}
		}
	}
	d := fresh(t, 9)
	d.Fault(1, api.ErrFull)
	d.Fault(2, api.ErrSum)
	ok(t, d.SyncDir())
	want(t, api.ErrSum, d.SyncDir())
	ok(t, d.SyncDir())
}

// A fuse and a fault wait by themselves: each counts the calls of the other one too.
func TestFuseAndFault(t *testing.T) {
	d := fresh(t, 9)
	d.Fuse(3)
	d.Fault(2, api.ErrSum)
	ok(t, d.SyncDir())
	want(t, api.ErrSum, d.SyncDir())
	want(t, api.ErrCrash, d.SyncDir())
	ok(t, d.Boot(0, nil))
	d.Fault(1, api.ErrSum)
	d.Fuse(1)
	want(t, api.ErrCrash, d.SyncDir())
	ok(t, d.Boot(0, nil), d.SyncDir())
	d.Fault(1, api.ErrSum)
	d.Fuse(0)
	want(t, api.ErrSum, d.SyncDir())
	d.Fuse(2)
	d.Fault(0, api.ErrSum)
	ok(t, d.SyncDir())
	want(t, api.ErrCrash, d.SyncDir())
}

func TestBootTakesFuseAndFaultAway(t *testing.T) {
	d := fresh(t, 9)
	d.Fault(3, api.ErrSum)
	crash(t, d)
	ok(t, d.Boot(0, nil), d.SyncDir(), d.SyncDir(), d.SyncDir(), d.SyncDir())
	crash(t, d)
	d.Fuse(1)
	d.Fault(2, api.ErrSum)
	ok(t, d.Boot(0, nil), d.SyncDir(), d.SyncDir(), d.SyncDir())
}

func TestPowerIsOff(t *testing.T) {
	d := fresh(t, 9, file("a", "1"), file("b", "2"))
	ok(t, d.Append("a", []byte("x")), d.Sync("a"), d.Create("c"))
	crash(t, d)
	for range 2 {
		for _, c := range changes {
			if e := c.call(d); e != api.ErrCrash {
				t.Errorf("%s without power: %v", c.name, e)
			}
		}
		if !d.Dead() || len(d.List()) != 0 || d.Used() != 0 || d.Calls() != 4 {
			t.Errorf("Dead = %v, List = %q, Used = %d, Calls = %d", d.Dead(), d.List(), d.Used(), d.Calls())
		}
	}
	ok(t, d.Boot(9, nil))
	wantState(t, d, "a=1x b=2 c=")
	if d.Dead() || d.Used() != 3 {
		t.Errorf("Dead = %v, Used = %d", d.Dead(), d.Used())
	}
}

func TestBootWithPower(t *testing.T) {
	d := fresh(t, 9, file("a", "1"))
	ok(t, d.Append("a", []byte("2")), d.Create("b"))
	d.Fuse(2)
	for range 3 {
		want(t, api.ErrArg, d.Boot(0, nil), d.Boot(9, []int{1}), d.Boot(-1, []int{-1}))
		wantState(t, d, "a=12 b=")
	}
	// Neither the turn nor the byte is lost, and the fuse still waits.
	want(t, api.ErrNone, d.Sync("none"))
	want(t, api.ErrCrash, d.SyncDir())
	ok(t, d.Boot(1, []int{1}))
	want(t, api.ErrArg, d.Boot(0, nil))
	wantState(t, d, "a=12 b=")
}

func TestBootExample(t *testing.T) {
	for turns, want := range []string{"", "a=xy", "a=xy"} {
		d := fresh(t, 9)
		ok(t, d.Create("a"), d.Append("a", []byte("xy")), d.Sync("a"))
		reboot(t, d, turns)
		wantState(t, d, want)
	}
}

func TestBootKeepsTheFirstTurns(t *testing.T) {
	states := []string{"a=1 b=2", "a=1 b=2 c=", "b=2 c=1", "b=2 c=1", "c=1", "b=3 c=1", "c=3", "c=3 d="}
	for turns := -2; turns < len(states)+3; turns++ {
		d := fresh(t, 9, file("a", "1"), file("b", "2"))
		ok(t, d.Create("c"), d.Rename("a", "c"), d.Sync("b"), d.Rename("c", "c"), d.Remove("b"))
		ok(t, d.Create("b"), d.Append("b", []byte("3")), d.Sync("b"))
		want(t, api.ErrThere, d.Create("c"))
		ok(t, d.Rename("b", "c"), d.Create("d"))
		reboot(t, d, turns)
		wantState(t, d, states[min(max(turns, 0), len(states)-1)])
	}
	for _, turns := range []int{math.MinInt, -1, math.MaxInt} {
		d := fresh(t, 9)
		ok(t, d.Create("a"))
		reboot(t, d, turns)
		if got := len(d.List()); got != 0 && turns < 0 || got != 1 && turns > 0 {
			t.Errorf("Boot(%d): %d names", turns, got)
		}
	}
}

// Behind SyncDir the turns ahead of it wait no more, and those behind it are counted from 0 on.
func TestSyncDirMakesNamesSure(t *testing.T) {
	for turns, want := range []string{"c=1", "", "d="} {
		d := fresh(t, 9, file("a", "1"), file("b", "2"))
		ok(t, d.Rename("a", "c"), d.Remove("b"), d.SyncDir(), d.Remove("c"), d.Create("d"))
		reboot(t, d, turns)
		wantState(t, d, want)
	}
}

// Behind Boot everything is sure, and nothing waits: neither what was kept nor what wasn't.
func TestBootMakesAllSure(t *testing.T) {
	d := fresh(t, 99, file("a", "1"))
	ok(t, d.Append("a", []byte("234")), d.Create("b"), d.Append("b", []byte("56")), d.Remove("a"))
	reboot(t, d, 1, 2, 1)
	wantState(t, d, "a=123 b=5")
	for range 2 {
		reboot(t, d, 0)
		wantState(t, d, "a=123 b=5")
		reboot(t, d, 9, 9, 9)
		wantState(t, d, "a=123 b=5")
	}
	ok(t, d.Append("a", []byte("xyz")))
	wantState(t, d, "a=123xyz b=5")
	reboot(t, d, 0, 1)
	wantState(t, d, "a=123x b=5")
}

func TestBootKeepsAsManyBytesAsSaid(t *testing.T) {
	for _, c := range []struct {
		numbers []int
		want    string
	}{
		{nil, "a=1 b=2 c="},
		{[]int{}, "a=1 b=2 c="},
		{[]int{0, 0, 0}, "a=1 b=2 c="},
		{[]int{-1, -7, math.MinInt}, "a=1 b=2 c="},
		{[]int{1}, "a=1x b=2 c="},
		{[]int{2, 1}, "a=1xy b=2z c="},
		{[]int{3, 3, 2}, "a=1xyx b=2zzz c=uv"},
		{[]int{4, 5, 6, 7, 8}, "a=1xyx b=2zzz c=uvw"},
		{[]int{math.MaxInt, -1, math.MaxInt}, "a=1xyx b=2 c=uvw"},
		{[]int{0, 1, 1}, "a=1 b=2z c=u"},
		{[]int{-1, 1}, "a=1 b=2z c="},
	} {
		d := fresh(t, 99, file("a", "1"), file("sure", "s"), file("b", "2"))
		ok(t, d.Create("c"), d.SyncDir(), d.Append("c", []byte("uvw")), d.Append("b", []byte("zzz")), d.Append("a", []byte("xy")), d.Append("a", []byte("x")))
		given := slices.Clone(c.numbers)
		reboot(t, d, 0, c.numbers...)
		wantState(t, d, c.want+" sure=s")
		if !slices.Equal(given, c.numbers) {
			t.Errorf("the numbers are changed: %d", c.numbers)
		}
	}
}

// The numbers go by the order in which files were made, whatever names they have and had.
func TestBootGoesByTheOrderOfMaking(t *testing.T) {
	d := fresh(t, 99, file("z", ""), file("m", ""))
	ok(t, d.Create("a"), d.Create("q"), d.Create("b"), d.Append("b", []byte("555")), d.Append("a", []byte("333")), d.Append("m", []byte("222")), d.Append("z", []byte("111")))
	ok(t, d.Rename("z", "y"), d.Rename("a", "z"), d.SyncDir())
	reboot(t, d, 0, 1, 2, 3, 0)
	wantState(t, d, "b= m=22 q= y=1 z=333")
	ok(t, d.Create("0"), d.SyncDir(), d.Append("0", []byte("6")), d.Append("y", []byte("7")), d.Append("z", []byte("8")))
	reboot(t, d, 0, 1, 0, 1)
	wantState(t, d, "0=6 b= m=22 q= y=17 z=333")
}

// A file whose bytes are all sure has no number, but one that nobody finds by a name has.
func TestNumbersOfFilesWithoutName(t *testing.T) {
	prepare := func() *disk.Disk {
		d := fresh(t, 99, file("a", "1"))
		ok(t, d.Append("a", []byte("xx")), d.Remove("a"), d.Create("b"), d.Append("b", []byte("yy")), d.Create("c"), d.Append("c", []byte("zz")))
		return d
	}
	for _, c := range []struct {
		turns int
		want  string
	}{{0, "a=1x"}, {1, ""}, {2, "b=yy"}, {3, "b=yy c=z"}} {
		d := prepare()
		reboot(t, d, c.turns, 1, 2, 1)
		wantState(t, d, c.want)
	}
	d := prepare()
	ok(t, d.Sync("b"), d.SyncDir())
	reboot(t, d, 0, 2, 1)
	wantState(t, d, "b=yy c=z")
	// Files without a name are gone with Boot: they have no number any more.
	ok(t, d.Append("b", []byte("y")), d.Append("c", []byte("z")))
	reboot(t, d, 0, 1, 0)
	wantState(t, d, "b=yyy c=z")
	// All bytes of what is removed were sure.
	ok(t, d.Remove("b"), d.SyncDir(), d.Append("c", []byte("q")))
	reboot(t, d, 0, 1)
	wantState(t, d, "c=zq")
}

// What Sync made sure stays with the file, whatever becomes of its name.
func TestSyncGoesWithTheFile(t *testing.T) {
	d := fresh(t, 99, file("a", "old"))
	ok(t, d.Create("~a"), d.Append("~a", []byte("new")), d.Sync("~a"), d.Append("~a", []byte("er")), d.SyncDir(), d.Rename("~a", "a"))
	wantState(t, d, "a=newer")
	reboot(t, d, 0)
	wantState(t, d, "a=old ~a=new")
	ok(t, d.Rename("~a", "a"), d.Append("a", []byte("est")), d.Sync("a"), d.Append("a", []byte("!")))
	reboot(t, d, 1)
	wantState(t, d, "a=newest")
}

// A file that is made anew under a name has nothing of the one that had it.
func TestSameNameAnotherFile(t *testing.T) {
	for turns, want := range []string{"a=1", "", "a=", "a= b=2", "a=2", "a=2"} {
		d := fresh(t, 99, file("a", "1"))
		ok(t, d.Remove("a"), d.Create("a"), d.Create("b"), d.Append("b", []byte("2")), d.Sync("b"), d.Rename("b", "a"))
		reboot(t, d, turns)
		wantState(t, d, want)
	}
}

func TestNilDisk(t *testing.T) {
	var d *disk.Disk
	for range 2 {
		for _, c := range changes {
			if e := c.call(d); e != api.ErrArg {
				t.Errorf("%s = %v", c.name, e)
			}
		}
		want(t, api.ErrArg, d.Create(""), d.Append("", nil), d.Sync(""), d.Rename("", ""), d.Remove(""), d.Boot(0, nil), d.Boot(9, []int{1}))
		if b, e := d.Read("a"); len(b) != 0 || e != api.ErrArg {
			t.Errorf("Read = %q, %v", b, e)
		}
		if len(d.List()) != 0 || d.Used() != 0 || d.Dead() || d.Calls() != 0 {
			t.Errorf("List = %q, Used = %d, Dead = %v, Calls = %d", d.List(), d.Used(), d.Dead(), d.Calls())
		}
		d.Fuse(1)
		d.Fault(1, api.ErrSum)
	}
}

// A disk that New did not make: no call panics.
func TestZeroDisk(t *testing.T) {
	var d disk.Disk
	wantState(t, &d, "")
	want(t, api.ErrNone, d.Append("a", nil), d.Sync("a"), d.Rename("a", "b"), d.Remove("a"))
	ok(t, d.Create("a"), d.Append("a", nil))
	want(t, api.ErrFull, d.Append("a", []byte("x")))
	wantState(t, &d, "a=")
	reboot(t, &d, 1)
	wantState(t, &d, "a=")
	for _, c := range changes {
		var d disk.Disk
		d.Fuse(2)
		c.call(&d)
		c.call(&d)
		ok(t, d.Boot(9, []int{9}), d.Create("b"))
	}
}

// Nothing that was handed in or out is the disk's own memory.
func TestMemoryIsNotShared(t *testing.T) {
	whole := []byte("abcdef")
	files := []api.File{{Name: "a", Data: whole[:2]}, file("b", "")}
	d := disk.New(files, 99)
	files[0].Name = "z"
	whole[0] = '!'
	wantState(t, d, "a=ab b=")
	ok(t, d.Append("a", whole[3:5]), d.Append("b", whole[1:3]))
	if string(whole) != "!bcdef" || string(files[0].Data) != "!b" {
		t.Fatalf("what was handed in is changed: %q, %q", whole, files[0].Data)
	}
	copy(whole, "??????")
	wantState(t, d, "a=abde b=bc")
	got, _ := d.Read("a")
	_ = append(got[:1], "*****"...)
	list := d.List()
	list[0] = "q"
	_ = append(list[:1], "r")
	wantState(t, d, "a=abde b=bc")
	before, _ := d.Read("a")
	ok(t, d.Append("a", []byte("fg")))
	reboot(t, d, 0)
	ok(t, d.Append("a", []byte("hij")))
	if string(before) != "abde" {
		t.Fatalf("what was answered is changed: %q", before)
	}
	wantState(t, d, "a=abhij b=")
}

// A disk's bytes that came back are not written over by another file's.
func TestFilesShareNoMemory(t *testing.T) {
	d := fresh(t, 1000, file("a", "1"), file("b", "2"))
	for i := range 20 {
		b := bytes.Repeat([]byte{byte('a' + i)}, 20)
		ok(t, d.Append("a", b), d.Append("b", b[:3]))
		reboot(t, d, 0, i%3, i%2)
	}
	a, _ := d.Read("a")
	b, _ := d.Read("b")
	if string(a) != "1bcceffhiikllnooqrrt" || string(b) != "2bdfhjlnprt" {
		t.Fatalf("a = %q, b = %q", a, b)
	}
}

// What no Boot can bring back isn't kept, however long a disk lives.
func TestLostBytesAreLetGo(t *testing.T) {
	for name, end := range map[string]func(d *disk.Disk){
		"SyncDir": func(d *disk.Disk) { ok(t, d.SyncDir()) },
		"Boot":    func(d *disk.Disk) { reboot(t, d, 9) },
	} {
		d := fresh(t, api.MaxDisk)
		b := make([]byte, api.MaxDisk)
		for i := range 128 {
			ok(t, d.Create("a"), d.Append("a", b))
			if i%2 == 0 {
				ok(t, d.Sync("a"), d.SyncDir())
			}
			ok(t, d.Remove("a"))
			end(d)
		}
		runtime.GC()
		var m runtime.MemStats
		runtime.ReadMemStats(&m)
		if d.Used() != 0 || m.HeapAlloc > 32<<20 {
			t.Errorf("%s: Used = %d, and %d bytes are kept", name, d.Used(), m.HeapAlloc)
		}
	}
}

func TestOneAnswer(t *testing.T) {
	run := func() string {
		d := fresh(t, 500, many(30)...)
		r := row(3)
		var out []string
		for range 300 {
			e := step(d, &r)
			out = append(out, strconv.Itoa(int(e)), state(d))
		}
		return strings.Join(out, "\n")
	}
	first := run()
	for range 5 {
		if run() != first {
			t.Fatal("the same calls have other answers")
		}
	}
}
