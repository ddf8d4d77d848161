package disk_test

import (
	"fmt"
	"slices"
	"strconv"
	"strings"
	"testing"

	"blazon/api"
	"blazon/disk"
)

// A row of numbers that is the same in each run.
type row uint64

func (r *row) next() uint64 {
	x := uint64(*r)
	x ^= x << 13
	x ^= x >> 7
	x ^= x << 17
	*r = row(x)
	return x
}

func (r *row) below(n int) int { return int(r.next() >> 20 % uint64(n)) }

// entry says that a name is that of the file with this number; names are a list of them, as they came.
type entry struct {
	name string
	file int
}

// model is a disk as the chapter tells it, made in another way: the names are kept as they were behind
// each turn that waits, and files are numbers, in the order in which they were made.
type model struct {
	capacity   int
	data       []string
	sure       []int
	gone       []bool
	stages     [][]entry // the sure names, and those behind each turn that waits
	calls      int
	fuse       int // how many calls are left; 0: none
	fault      int
	faultError api.Errno
	dead       bool
}

func (m *model) names() []entry { return m.stages[len(m.stages)-1] }

func (m *model) find(name string) int {
	for _, x := range m.names() {
		if x.name == name {
			return x.file
		}
	}
	return -1
}

func (m *model) without(names ...string) []entry {
	var l []entry
	for _, x := range m.names() {
		if !slices.Contains(names, x.name) {
			l = append(l, x)
		}
	}
	return l
}

func (m *model) turn(l []entry) api.Errno { m.stages = append(m.stages, l); return api.OK }

func (m *model) used() int {
	n := 0
	for _, x := range m.names() {
		n += len(m.data[x.file])
	}
	return n
}

func (m *model) begin() api.Errno {
	if m.dead {
		return api.ErrCrash
	}
	m.calls++
	if m.fuse > 0 {
		m.fuse--
		if m.fuse == 0 {
			m.dead = true
			return api.ErrCrash
		}
	}
	if m.fault > 0 {
		m.fault--
		if m.fault == 0 {
			return m.faultError
		}
	}
	return api.OK
}

func good(name string) bool {
	return len(name) >= 1 && len(name) <= 24 && strings.Trim(name, "abcdefghijklmnopqrstuvwxyz0123456789-.~") == ""
}

func (m *model) do(kind int, name, other, data string) api.Errno {
	if e := m.begin(); e != api.OK {
		return e
	}
	f := m.find(name)
	switch kind {
	case 0:
		switch {
		case !good(name):
			return api.ErrArg
		case f >= 0:
			return api.ErrThere
		case len(m.names()) == 64:
			return api.ErrFull
		}
		m.data, m.sure, m.gone = append(m.data, ""), append(m.sure, 0), append(m.gone, false)
		return m.turn(append(m.without(), entry{name, len(m.data) - 1}))
	case 3:
		m.stages = m.stages[len(m.stages)-1:]
		return api.OK
	}
	if f < 0 {
		return api.ErrNone
	}
	switch kind {
	case 1:
		if m.used()+len(data) > m.capacity {
			return api.ErrFull
		}
		m.data[f] += data
	case 2:
		m.sure[f] = len(m.data[f])
	case 4:
		if !good(other) {
			return api.ErrArg
		}
		return m.turn(append(m.without(name, other), entry{other, f}))
	case 5:
		return m.turn(m.without(name))
	}
	return api.OK
}

func (m *model) boot(turns int, numbers []int) api.Errno {
	if !m.dead {
		return api.ErrArg
	}
	turns = min(max(turns, 0), len(m.stages)-1)
	m.stages = m.stages[turns : turns+1]
	for f := range m.data {
		if unsure := len(m.data[f]) - m.sure[f]; unsure > 0 && !m.gone[f] {
			n := 0
			if len(numbers) > 0 {
				n, numbers = min(max(numbers[0], 0), unsure), numbers[1:]
			}
			m.sure[f] += n
		}
		m.data[f] = m.data[f][:m.sure[f]]
		m.gone[f] = !slices.ContainsFunc(m.names(), func(x entry) bool { return x.file == f })
	}
	m.fuse, m.fault, m.dead = 0, 0, false
	return api.OK
}

func (m *model) state() string {
	if m.dead {
		return "off"
	}
	var l []string
	for _, x := range m.names() {
		l = append(l, x.name+"="+m.data[x.file])
	}
	slices.SortFunc(l, func(a, b string) int {
		return strings.Compare(a[:strings.Index(a, "=")], b[:strings.Index(b, "=")])
	})
	return strings.Join(l, " ")
}

// order is a call that changes, by its number.
func order(d *disk.Disk, kind int, name, other, data string) api.Errno {
	switch kind {
	case 0:
		return d.Create(name)
	case 1:
		return d.Append(name, []byte(data))
	case 2:
		return d.Sync(name)
	case 3:
		return d.SyncDir()
	case 4:
		return d.Rename(name, other)
	}
	return d.Remove(name)
}

// anOrder is one at random, with few names, so that they meet.
func anOrder(r *row, names []string) (kind int, name, other, data string) {
	kind = []int{0, 0, 0, 1, 1, 1, 1, 2, 3, 4, 4, 5}[r.below(12)]
	return kind, names[r.below(len(names))], names[r.below(len(names))], strconv.Itoa(100 + r.below(900))[:r.below(4)]
}

var fewNames = []string{"a", "b", "c", "~a", "d", "A", ""}

// step does something at random, Boot among it.
func step(d *disk.Disk, r *row) api.Errno {
	if d.Dead() {
		return d.Boot(r.below(6), []int{r.below(3), r.below(3), r.below(3)})
	}
	if r.below(12) == 0 {
		d.Fuse(r.below(4))
	}
	kind, name, other, data := anOrder(r, fewNames)
	return order(d, kind, name, other, data)
}

func wantSame(t *testing.T, what string, d *disk.Disk, m *model) {
	t.Helper()
	if got, want := state(d), m.state(); got != want {
		t.Fatalf("%s: the disk has %q, want %q", what, got, want)
	}
	used := 0
	if !m.dead {
		used = m.used()
	}
	if d.Dead() != m.dead || d.Calls() != m.calls || d.Used() != used {
		t.Fatalf("%s: Dead, Calls, Used = %v, %d, %d, want %v, %d, %d", what, d.Dead(), d.Calls(), d.Used(), m.dead, m.calls, used)
	}
}

// bothStep does one thing at random on both, and holds them against each other.
func bothStep(t *testing.T, r *row, d *disk.Disk, m *model, names []string, fuses int) {
	t.Helper()
	var got, want api.Errno
	what := ""
	switch {
	case m.dead && r.below(4) > 0 || r.below(60) == 0:
		turns, numbers := r.below(10)-1, make([]int, r.below(7))
		for i := range numbers {
			numbers[i] = r.below(6) - 1
		}
		what = fmt.Sprintf("Boot(%d, %d)", turns, numbers)
		got, want = d.Boot(turns, numbers), m.boot(turns, numbers)
	case r.below(fuses) == 0:
		n := r.below(12) - 1
		what = fmt.Sprintf("Fuse(%d)", n)
		d.Fuse(n)
		m.fuse = max(n, 0)
	case r.below(25) == 0:
		n, e := r.below(6)-1, api.Errno(r.below(23))
		what = fmt.Sprintf("Fault(%d, %v)", n, e)
		d.Fault(n, e)
		m.fault, m.faultError = max(n, 0), e
		if e == api.OK || e == api.ErrCrash {
			m.fault = 0
		}
	default:
		k, name, other, data := anOrder(r, names)
		what = fmt.Sprintf("call %d of %q, %q, %q", k, name, other, data)
		got, want = order(d, k, name, other, data), m.do(k, name, other, data)
	}
	if got != want {
		t.Fatalf("%s = %v, want %v", what, got, want)
	}
	wantSame(t, what, d, m)
}

func both(t *testing.T, capacity int, files ...api.File) (*disk.Disk, *model) {
	t.Helper()
	d, m := fresh(t, capacity, files...), &model{capacity: capacity, stages: [][]entry{nil}}
	for i, f := range files {
		m.data, m.sure, m.gone = append(m.data, string(f.Data)), append(m.sure, len(f.Data)), append(m.gone, false)
		m.stages[0] = append(m.stages[0], entry{f.Name, i})
	}
	wantSame(t, "New", d, m)
	return d, m
}

func TestAgainstTheModel(t *testing.T) {
	for seed := range 3000 {
		r := row(seed + 1)
		r.next()
		d, m := both(t, r.below(40)+2, file("b", "1"), file("a", ""))
		for range 120 {
			bothStep(t, &r, d, m, fewNames, 25)
		}
	}
}

// With many names the limit of them is met too.
func TestManyNamesAgainstTheModel(t *testing.T) {
	var names []string
	for _, f := range many(80) {
		names = append(names, f.Name)
	}
	for seed := range 20 {
		r := row(seed + 77)
		d, m := both(t, 200, many(55)...)
		for range 600 {
			bothStep(t, &r, d, m, names, 90)
		}
	}
}

// P3.5: whatever is kept, what was sure is there behind Boot.
func TestSureStays(t *testing.T) {
	for seed := range 500 {
		r := row(seed + 5)
		d := fresh(t, 60, file("a", "1"), file("b", "2"))
		for range r.below(40) {
			order(d, r.below(6), fewNames[r.below(5)], fewNames[r.below(5)], "xyz"[:r.below(4)])
		}
		was := map[string]string{}
		for _, name := range d.List() {
			ok(t, d.Sync(name))
			b, _ := d.Read(name)
			was[name] = string(b)
		}
		ok(t, d.SyncDir())
		touched := map[string]bool{}
		for range r.below(30) {
			k, name, other := r.below(6), fewNames[r.below(5)], fewNames[r.below(5)]
			if k == 3 {
				continue
			}
			if e := order(d, k, name, other, "xyz"); e == api.OK && (k == 0 || k >= 4) {
				touched[name], touched[other] = true, true
			}
		}
		crash(t, d)
		ok(t, d.Boot(r.below(20)-1, []int{r.below(4), r.below(4), r.below(4)}))
		for name, data := range was {
			b, e := d.Read(name)
			if !touched[name] && (e != api.OK || !strings.HasPrefix(string(b), data)) {
				t.Fatalf("%s was %q, and is %q, %v", name, data, b, e)
			}
		}
	}
}
