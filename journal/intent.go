package journal

import (
	"bytes"
	"sync"

	"blazon/api"
	"blazon/crc"
	"blazon/disk"
	"blazon/num"
	"blazon/record"
)

// The kinds of the journal's records.
const (
	intentKind = iota + 1
	commitKind
)

// How many bytes a sum has, in the form of four bytes.
const sumBytes = 4

// One summer serves all disks: it keeps nothing but its table and the number of its calls.
var (
	summerOnce sync.Once
	summer     *crc.Summer
)

func theSummer() *crc.Summer {
	summerOnce.Do(func() { summer = crc.New() })
	return summer
}

// A change is what an intent tells of a source: its name, and the sum of its new bytes.
type change struct {
	name string
	sum  uint32
}

func layIntent(files []api.File) []byte {
	b := num.Put(nil, uint64(len(files)))
	for _, f := range files {
		b = append(num.Put(b, uint64(len(f.Name))), f.Name...)
		b = num.Put4(b, theSummer().Of(f.Data))
	}
	return b
}

func layCommit(intent []byte) []byte { return num.Put4(nil, theSummer().Of(intent)) }

// layRecord has no error to tell: both kinds may be, and an intent of MaxFiles names is far from record.Most.
func layRecord(kind int, payload []byte) []byte {
	b, _ := record.Put(theSummer(), nil, record.Rec{Kind: kind, Payload: payload})
	return b
}

// committed tells whether a disk's journal is committed, and of which sources.
func committed(d *disk.Disk) (sources []string, ok bool) {
	b, _ := d.Read(journalName)
	l, _ := record.All(theSummer(), b)
	if len(l) < 2 || l[0].Kind != intentKind || l[1].Kind != commitKind {
		return nil, false
	}
	intent, commit := l[0].Payload, l[1].Payload
	changes, ok := readIntent(intent)
	if !ok || !bytes.Equal(commit, layCommit(intent)) {
		return nil, false
	}
	for _, c := range changes {
		if !shadowMayBe(d, c) {
			return nil, false
		}
		sources = append(sources, c.name)
	}
	return sources, true
}

// shadowMayBe tells whether a shadow has the bytes that were to be, or isn't there.
func shadowMayBe(d *disk.Disk, c change) bool {
	b, e := d.Read(shadow(c.name))
	return e == api.ErrNone || e == api.OK && theSummer().Of(b) == c.sum
}

// readIntent takes any bytes; it ends at the first change that isn't one, however many are said to come.
func readIntent(b []byte) (l []change, ok bool) {
	count, used, e := num.Get(b)
	if e != api.OK || count == 0 {
		return nil, false
	}
	rest, last := b[used:], ""
	for range count {
		c, used, ok := readChange(rest)
		if !ok || c.name <= last {
			return nil, false
		}
		l, rest, last = append(l, c), rest[used:], c.name
	}
	return l, len(rest) == 0
}

// readChange reads the change that b begins with, and tells how many bytes it has.
func readChange(b []byte) (c change, used int, ok bool) {
	length, used, e := num.Get(b)
	if e != api.OK || length > uint64(len(b)-used) {
		return change{}, 0, false
	}
	end := used + int(length)
	name := string(b[used:end])
	sum, e := num.Get4(b[end:])
	if e != api.OK || !Source(name) {
		return change{}, 0, false
	}
	return change{name, sum}, end + sumBytes, true
}
