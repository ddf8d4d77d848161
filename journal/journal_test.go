package journal_test

import (
	"bytes"
	"go/ast"
	"go/parser"
	"go/token"
	"path/filepath"
	"slices"
	"strconv"
	"strings"
	"testing"

	"blazon/api"
	"blazon/disk"
	"blazon/journal"
)

func file(name, data string) api.File { return api.File{Name: name, Data: []byte(data)} }

// many is n files f0, f1, .. without bytes.
func many(n int) []api.File {
	l := make([]api.File, n)
	for i := range l {
		l[i].Name = "f" + strconv.Itoa(i)
	}
	return l
}

func fresh(t *testing.T, capacity int, files ...api.File) *disk.Disk {
	t.Helper()
	d := disk.New(files, capacity)
	if d == nil {
		t.Fatal("New answers nil")
	}
	return d
}

func want(t *testing.T, what string, got, want api.Errno) {
	t.Helper()
	if got != want {
		t.Fatalf("%s: %v, want %v", what, got, want)
	}
}

// text is files as a text: name=bytes, with blanks between.
func text(l []api.File) string {
	var out []string
	for _, f := range l {
		out = append(out, f.Name+"="+string(f.Data))
	}
	return strings.Join(out, " ")
}

// state is all that a disk shows: its files, rising; off, if the power is.
func state(t *testing.T, d *disk.Disk) string {
	t.Helper()
	if d.Dead() {
		return "off"
	}
	var l []api.File
	for _, name := range d.List() {
		b, e := d.Read(name)
		want(t, "Read of "+name, e, api.OK)
		l = append(l, api.File{Name: name, Data: b})
	}
	return text(l)
}

func wantState(t *testing.T, what string, d *disk.Disk, want string) {
	t.Helper()
	if got := state(t, d); got != want {
		t.Fatalf("%s: the disk has %q, want %q", what, got, want)
	}
}

func sources(t *testing.T, d *disk.Disk) string {
	t.Helper()
	l, e := journal.Sources(d)
	want(t, "Sources", e, api.OK)
	return text(l)
}

func commit(t *testing.T, what string, d *disk.Disk, e api.Errno, l ...api.File) {
	t.Helper()
	want(t, what+": Commit", journal.Commit(d, l), e)
}

func wantRecover(t *testing.T, what string, d *disk.Disk, forward bool, e api.Errno) {
	t.Helper()
	if f, got := journal.Recover(d); f != forward || got != e {
		t.Fatalf("%s: Recover = %v, %v, want %v, %v", what, f, got, forward, e)
	}
}

// crash takes the power off, if it is on, and brings it back.
func crash(t *testing.T, d *disk.Disk, turns int, kept ...int) {
	t.Helper()
	if !d.Dead() {
		d.Fuse(1)
		want(t, "the fuse", d.SyncDir(), api.ErrCrash)
	}
	want(t, "Boot", d.Boot(turns, kept), api.OK)
}

func TestSource(t *testing.T) {
	for c := range 256 {
		one := string([]byte{byte(c)})
		name := disk.Name(one)
		if got := journal.Source(one); got != (name && c != '~') {
			t.Errorf("Source(%q) = %v", one, got)
		}
		if got := journal.Source("a" + one); got != name {
			t.Errorf("Source(%q) = %v", "a"+one, got)
		}
	}
	for n := range 60 {
		if got := journal.Source(strings.Repeat("a", n)); got != (n >= 1 && n <= 23) {
			t.Errorf("Source of %d bytes = %v", n, got)
		}
	}
	for _, s := range []string{"", "~", "~a", "~~", "~journal", "journal", "A", "a b", "a/b", "\x00", "\xff", "é", "~" + strings.Repeat("a", 22), strings.Repeat("a", 22) + "A", strings.Repeat("a", 1<<20)} {
		if journal.Source(s) {
			t.Errorf("Source(%.30q) = true", s)
		}
	}
	for _, s := range []string{"a", "a~", "-", ".", "..", "0", "-~journal", "journa", "journal.", "journals", "journal~", "jjournal", "journal0", strings.Repeat("z", 22) + "~"} {
		if !journal.Source(s) {
			t.Errorf("Source(%q) = false", s)
		}
	}
}

func TestSources(t *testing.T) {
	long, longer := strings.Repeat("x", 23), strings.Repeat("x", 24)
	for _, c := range []struct {
		why   string
		files []api.File
		want  string
	}{
		{"no files", nil, ""},
		{"one", []api.File{file("a", "one")}, "a=one"},
		{"rising, byte by byte", []api.File{file("b", "1"), file("a~", "2"), file("ab", "3"), file("a", ""), file(".", "5"), file("9", "6"), file("-", "7")}, "-=7 .=5 9=6 a= ab=3 a~=2 b=1"},
		{"what is none", []api.File{file("~a", "1"), file("journal", "2"), file(longer, "3"), file("~", "4"), file("~journal", "5")}, ""},
		{"what is none among others", []api.File{file("~a", "1"), file("a", "2"), file("journal", "3"), file(long, "4"), file(longer, "5"), file("journals", "6")}, "a=2 journals=6 " + long + "=4"},
		{"bytes of any kind", []api.File{file("a", "\x00\xff =\n"), file("b", strings.Repeat("y", 70000))}, "a=\x00\xff =\n b=" + strings.Repeat("y", 70000)},
	} {
		d := fresh(t, api.MaxDisk, c.files...)
		for range 2 {
			if got := sources(t, d); got != c.want {
				t.Errorf("%s: Sources = %.200q, want %.200q", c.why, got, c.want)
			}
		}
		if d.Calls() != 0 {
			t.Errorf("%s: calls were made", c.why)
		}
	}
	d := fresh(t, 100, many(64)...)
	if l, e := journal.Sources(d); len(l) != 64 || e != api.OK || l[63].Name != "f9" || l[1].Name != "f1" || l[2].Name != "f10" {
		t.Errorf("of 64 files: %d, %v", len(l), e)
	}
}

func TestSourcesWithoutPower(t *testing.T) {
	d := fresh(t, 100, file("a", "one"))
	d.Fuse(1)
	want(t, "the fuse", d.SyncDir(), api.ErrCrash)
	if l, e := journal.Sources(d); len(l) != 0 || e != api.ErrCrash {
		t.Fatalf("Sources = %q, %v", text(l), e)
	}
}

func TestClean(t *testing.T) {
	for _, c := range []struct {
		names string
		want  bool
	}{
		{"", true}, {"a", true}, {"a b journal", true}, {"a~ b~~ 0~", true}, {strings.Repeat("x", 24), true},
		{"~", false}, {"~a", false}, {"a ~a", false}, {"~journal", false}, {"b ~a c", false}, {"~~", false}, {"~" + strings.Repeat("x", 23), false}, {"z ~~z", false},
	} {
		var files []api.File
		for _, name := range strings.Fields(c.names) {
			files = append(files, file(name, "x"))
		}
		d := fresh(t, 100, files...)
		if got := journal.Clean(d); got != c.want || d.Calls() != 0 {
			t.Errorf("Clean with %q = %v", c.names, got)
		}
	}
	d := fresh(t, 100)
	d.Create("~x")
	if journal.Clean(d) {
		t.Error("what isn't sure is seen, too")
	}
	d.Rename("~x", "x")
	if !journal.Clean(d) {
		t.Error("what was renamed is no more")
	}
}

func TestCommit(t *testing.T) {
	long := strings.Repeat("x", 23)
	for _, c := range []struct {
		why    string
		change []api.File
		want   string
	}{
		{"one", []api.File{file("b", "2")}, "a=one b=2 c= journal=j " + long + "=l"},
		{"the shortest and the longest name", []api.File{file(long, "L"), file("a", "A")}, "a=A b=two c= journal=j " + long + "=L"},
		{"no bytes any more", []api.File{file("a", "")}, "a= b=two c= journal=j " + long + "=l"},
		{"the same bytes", []api.File{file("a", "one")}, "a=one b=two c= journal=j " + long + "=l"},
		{"all, falling", []api.File{file(long, "4"), file("c", "3"), file("b", ""), file("a", "1")}, "a=1 b= c=3 journal=j " + long + "=4"},
		{"bytes of any kind", []api.File{file("c", "\x00\xff\n~"), file("a", long+long)}, "a=" + long + long + " b=two c=\x00\xff\n~ journal=j " + long + "=l"},
	} {
		d := fresh(t, 400, file("a", "one"), file("b", "two"), file("c", ""), file("journal", "j"), file(long, "l"))
		commit(t, c.why, d, api.OK, c.change...)
		wantState(t, c.why, d, c.want)
		if got := 10 + 4*len(c.change); d.Calls() != got {
			t.Errorf("%s: %d calls, want %d", c.why, d.Calls(), got)
		}
		wantRecover(t, c.why, d, false, api.OK)
		crash(t, d, 0)
		wantState(t, c.why+", and it is sure", d, c.want)
		if d.Calls() != 11+4*len(c.change) {
			t.Errorf("%s: what is clean is not left alone", c.why)
		}
	}
}

// The document's example.
func TestCommitOfOneSourceHas14Calls(t *testing.T) {
	d := fresh(t, 100, file("a", "old"))
	commit(t, "one source", d, api.OK, file("a", "new"))
	if d.Calls() != 14 {
		t.Fatalf("%d calls", d.Calls())
	}
	wantState(t, "one source", d, "a=new")
}

func TestCommitAgainAndAgain(t *testing.T) {
	d := fresh(t, 300, file("a", ""), file("b", ""))
	for i := range 50 {
		n := strconv.Itoa(i)
		commit(t, n, d, api.OK, file("b", "b"+n), file("a", n))
		wantState(t, n, d, "a="+n+" b=b"+n)
	}
}

// The journal and the shadows need names, too: there are MaxFiles of them in all.
func TestCommitOfManySources(t *testing.T) {
	for _, c := range []struct {
		files, changed int
		want           api.Errno
	}{{1, 1, api.OK}, {31, 31, api.OK}, {32, 31, api.OK}, {32, 32, api.ErrFull}, {63, 1, api.ErrFull}, {62, 1, api.OK}, {64, 1, api.ErrFull}, {64, 64, api.ErrFull}} {
		d := fresh(t, api.MaxDisk, many(c.files)...)
		was := state(t, d)
		l := many(c.changed)
		slices.Reverse(l)
		for i := range l {
			l[i].Data = []byte(l[i].Name + "!")
		}
		what := strconv.Itoa(c.changed) + " of " + strconv.Itoa(c.files)
		commit(t, what, d, c.want, l...)
		if c.want != api.OK {
			wantState(t, what, d, was)
			continue
		}
		for _, f := range l {
			if b, e := d.Read(f.Name); e != api.OK || string(b) != f.Name+"!" {
				t.Fatalf("%s: %s is %q, %v", what, f.Name, b, e)
			}
		}
		if len(d.List()) != c.files {
			t.Fatalf("%s: %q", what, d.List())
		}
	}
}

// What is needed beside the old files, at most: the journal's records and the shadows.
func TestCommitNeedsRoom(t *testing.T) {
	old := []api.File{file("a", "one"), file("b", "two"), file("c", "three")}
	change := []api.File{file("b", "2"), file("a", "1111")}
	const records = 9 + 1 + 2*6 + 9 + 4
	for capacity := 11; capacity < 11+5+records+3; capacity++ {
		d := fresh(t, capacity, old...)
		what := "room for " + strconv.Itoa(capacity)
		if capacity < 11+5+records {
			commit(t, what, d, api.ErrFull, change...)
			wantState(t, what, d, "a=one b=two c=three")
			continue
		}
		commit(t, what, d, api.OK, change...)
		wantState(t, what, d, "a=1111 b=2 c=three")
	}
	d := fresh(t, api.MaxDisk, old...)
	commit(t, "more than any disk has", d, api.ErrFull, api.File{Name: "a", Data: make([]byte, api.MaxDisk+1)})
	wantState(t, "more than any disk has", d, "a=one b=two c=three")
}

// P5.2: why nothing is done, and which of the reasons is told.
func TestCommitErrors(t *testing.T) {
	a, x, good := file("a", "1"), file("x", "1"), []api.File{file("b", "2"), file("a", "1")}
	for _, c := range []struct {
		why    string
		l      []api.File
		off    bool
		hidden string
		want   api.Errno
	}{
		{"nil", nil, false, "", api.ErrArg},
		{"none", []api.File{}, false, "", api.ErrArg},
		{"twice", []api.File{a, a}, false, "", api.ErrArg},
		{"twice with other bytes", []api.File{a, file("b", ""), file("a", "2")}, false, "", api.ErrArg},
		{"the last two alike", []api.File{a, file("b", ""), file("b", "2")}, false, "", api.ErrArg},
		{"one that isn't there, twice", []api.File{x, a, x}, false, "", api.ErrArg},
		{"no name", []api.File{a, file("", "")}, false, "", api.ErrArg},
		{"a shadow", []api.File{file("~a", "")}, false, "", api.ErrArg},
		{"a shadow behind others", []api.File{a, file("~", "")}, false, "", api.ErrArg},
		{"the journal", []api.File{file("~journal", "")}, false, "", api.ErrArg},
		{"one called journal, that is there", []api.File{a, file("journal", "")}, false, "", api.ErrArg},
		{"24 bytes, that is there", []api.File{file(strings.Repeat("l", 24), "")}, false, "", api.ErrArg},
		{"25 bytes", []api.File{file(strings.Repeat("l", 25), "")}, false, "", api.ErrArg},
		{"a great letter", []api.File{file("b", ""), file("A", "")}, false, "", api.ErrArg},
		{"no source, behind one that isn't there", []api.File{x, file("~y", "")}, false, "", api.ErrArg},
		{"nil, without power", nil, true, "", api.ErrArg},
		{"twice, without power", []api.File{a, a}, true, "", api.ErrArg},
		{"a shadow, without power", []api.File{file("~a", "")}, true, "", api.ErrArg},
		{"nil, not clean", nil, false, "~x", api.ErrArg},
		{"without power", good, true, "", api.ErrCrash},
		{"one that isn't there, without power", []api.File{x}, true, "", api.ErrCrash},
		{"not clean, without power", good, true, "~x", api.ErrCrash},
		{"one that isn't there", []api.File{x}, false, "", api.ErrNone},
		{"one of them isn't there", []api.File{a, file("b", "2"), x}, false, "", api.ErrNone},
		{"the first of them isn't there", []api.File{file("0", ""), a}, false, "", api.ErrNone},
		{"one that isn't there, not clean", []api.File{a, x}, false, "~y", api.ErrNone},
		{"its shadow alone is there", []api.File{x}, false, "~x", api.ErrNone},
		{"not clean: another's shadow", good, false, "~x", api.ErrThere},
		{"not clean: its shadow", good, false, "~a", api.ErrThere},
		{"not clean: the journal", good, false, "~journal", api.ErrThere},
		{"not clean: ~", good, false, "~", api.ErrThere},
		{"not clean: a long one", good, false, "~" + strings.Repeat("z", 23), api.ErrThere},
	} {
		old := []api.File{file("a", "one"), file("b", "two"), file("journal", "j"), file(strings.Repeat("l", 24), "l")}
		if c.hidden != "" {
			old = append(old, file(c.hidden, "h"))
		}
		d := fresh(t, 500, old...)
		calls, was := 0, state(t, d)
		if c.off {
			calls, was = 1, "off"
			d.Fuse(1)
			want(t, "the fuse", d.SyncDir(), api.ErrCrash)
		}
		commit(t, c.why, d, c.want, c.l...)
		wantState(t, c.why, d, was)
		if d.Calls() != calls {
			t.Errorf("%s: %d calls, want %d", c.why, d.Calls(), calls)
		}
	}
}

// Many names are no reason to do more than to tell the error.
func TestCommitOfVeryManyNames(t *testing.T) {
	d := fresh(t, 100, many(60)...)
	l := many(300000)
	commit(t, "many names", d, api.ErrNone, l...)
	commit(t, "many names, one of them twice", d, api.ErrArg, append(l, l[7])...)
	if d.Calls() != 0 {
		t.Fatalf("%d calls", d.Calls())
	}
}

func TestNilDisk(t *testing.T) {
	for range 2 {
		if l, e := journal.Sources(nil); len(l) != 0 || e != api.ErrArg {
			t.Errorf("Sources = %q, %v", text(l), e)
		}
		if !journal.Clean(nil) {
			t.Error("it isn't clean")
		}
		commit(t, "nil", nil, api.ErrArg)
		commit(t, "nil", nil, api.ErrArg, file("a", "1"))
		commit(t, "nil", nil, api.ErrArg, file("~", ""), file("~", ""))
		wantRecover(t, "nil", nil, false, api.ErrArg)
	}
}

// A disk that New did not make.
func TestZeroDisk(t *testing.T) {
	var d disk.Disk
	wantRecover(t, "the zero value", &d, false, api.OK)
	commit(t, "the zero value", &d, api.ErrNone, file("a", "1"))
	if got := sources(t, &d); got != "" || !journal.Clean(&d) {
		t.Fatal(got)
	}
	want(t, "Create", d.Create("a"), api.OK)
	commit(t, "without room", &d, api.ErrFull, file("a", "1"))
	wantState(t, "without room", &d, "a=")
	want(t, "Create", d.Create("~a"), api.OK)
	wantRecover(t, "not clean", &d, false, api.OK)
	wantState(t, "not clean", &d, "a=")
}

func TestRecoverWithoutPower(t *testing.T) {
	for _, hidden := range []string{"b", "~a", "~journal"} {
		d := fresh(t, 100, file("a", "one"), file(hidden, "x"))
		d.Fuse(1)
		want(t, "the fuse", d.SyncDir(), api.ErrCrash)
		wantRecover(t, hidden, d, false, api.ErrCrash)
		if d.Calls() != 1 {
			t.Errorf("%s: %d calls", hidden, d.Calls())
		}
	}
}

// Nothing that was handed in or out is the disk's own memory, and nothing of it is changed.
func TestMemoryIsNotShared(t *testing.T) {
	d := fresh(t, 200, file("a", "one"), file("b", "two"))
	whole := []byte("abcdef")
	list := []api.File{{Name: "b", Data: whole[:2]}, {Name: "a", Data: whole[3:5]}, {Name: "c"}}
	commit(t, "a list", d, api.OK, list[:2]...)
	if string(whole) != "abcdef" || text(list) != "b=ab a=de c=" {
		t.Fatalf("what was handed in is changed: %q, %q", whole, text(list))
	}
	copy(whole, "******")
	list[0].Name, list[1].Name = "x", "y"
	wantState(t, "it is changed later", d, "a=de b=ab")
	l, _ := journal.Sources(d)
	_ = append(l[0].Data, "+++++"...)
	copy(l[1].Data, "-----")
	if text(l) != "a=de b=--" {
		t.Fatalf("Sources share memory: %q", text(l))
	}
	_ = append(l[:1], file("z", ""))
	wantState(t, "what was answered is changed", d, "a=de b=ab")
	if got := sources(t, d); got != "a=de b=ab" {
		t.Fatal(got)
	}
	first, _ := journal.Sources(d)
	commit(t, "again", d, api.OK, file("a", "new"), file("b", "er"))
	if text(first) != "a=de b=ab" {
		t.Fatalf("what was answered is changed: %q", text(first))
	}
}

// The bytes of a list are not read behind their length, and the list isn't.
func TestNothingBehindTheLengthIsRead(t *testing.T) {
	d := fresh(t, 200, file("a", "one"), file("b", "two"))
	list := []api.File{{Name: "a", Data: []byte("longer")[:4]}, file("~", "no source")}
	commit(t, "a part", d, api.OK, list[:1]...)
	wantState(t, "a part", d, "a=long b=two")
	commit(t, "nothing of it", d, api.ErrArg, list[:0]...)
}

func TestOneAnswer(t *testing.T) {
	run := func() string {
		out := new(bytes.Buffer)
		for fuse := range 25 {
			d := fresh(t, 300, file("a", "1"), file("b", "2"), file("c", "3"))
			d.Fuse(fuse)
			out.WriteString(journal.Commit(d, []api.File{file("c", "z"), file("a", "x")}).Error())
			d.Boot(fuse%5, []int{3, 0, 9})
			out.WriteString(state(t, d))
			f, e := journal.Recover(d)
			out.WriteString(strconv.FormatBool(f) + e.Error() + sources(t, d) + strconv.Itoa(d.Calls()) + "\n")
		}
		return out.String()
	}
	first := run()
	for range 5 {
		if run() != first {
			t.Fatal("the same calls have other answers")
		}
	}
}

// The summer and its once lie in what a call makes: no variable stands at package level, so that nothing
// is kept from call to call but on the disk.
func TestNothingIsKeptAtPackageLevel(t *testing.T) {
	names, err := filepath.Glob("*.go")
	if err != nil || len(names) == 0 {
		t.Fatal(names, err)
	}
	for _, name := range names {
		if strings.HasSuffix(name, "_test.go") {
			continue
		}
		f, err := parser.ParseFile(token.NewFileSet(), name, nil, 0)
		if err != nil {
			t.Fatal(err)
		}
		for _, d := range f.Decls {
			if g, ok := d.(*ast.GenDecl); ok && g.Tok == token.VAR {
				t.Errorf("%s has a variable at package level", name)
			}
		}
	}
}
