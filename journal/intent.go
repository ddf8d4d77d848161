package journal

import (
	"bytes"
	"sync"

	"blazon/api"
	"blazon/crc"
	"blazon/disk"
	"blazon/num"
	"blazon/record"
)

// The kinds of the journal's records.
const (
	intentKind = iota + 1
	commitKind
)

// How many bytes a sum has, in the form of four bytes.
const sumBytes = 4

// Sums are those of one Commit, or of one Recover. Their summer is made when the first of them is asked
// for, and serves the others, so that its table is made once too.
type sums struct {
	once   sync.Once
	summer *crc.Summer
}

func (s *sums) theSummer() *crc.Summer {
	s.once.Do(func() { s.summer = crc.New() })
	return s.summer
}

// A change is what an intent tells of a source: its name, and the sum of its new bytes.
type change struct {
	name string
	sum  uint32
}

func layIntent(s *sums, files []api.File) []byte {
	b := num.Put(nil, uint64(len(files)))
	for _, f := range files {
		b = append(num.Put(b, uint64(len(f.Name))), f.Name...)
		b = num.Put4(b, s.theSummer().Of(f.Data))
	}
	return b
}

func layCommit(s *sums, intent []byte) []byte { return num.Put4(nil, s.theSummer().Of(intent)) }

// layRecord has no error to tell: both kinds may be, and an intent of MaxFiles names is far from record.Most.
func layRecord(s *sums, kind int, payload []byte) []byte {
	b, _ := record.Put(s.theSummer(), nil, record.Rec{Kind: kind, Payload: payload})
	return b
}

// committed tells whether a disk's journal is committed, and of which sources.
func committed(s *sums, d *disk.Disk) (sources []string, ok bool) {
	b, _ := d.Read(journalName)
	l, _ := record.All(s.theSummer(), b)
	if len(l) < 2 || l[0].Kind != intentKind || l[1].Kind != commitKind {
		return nil, false
	}
	intent, commit := l[0].Payload, l[1].Payload
	changes, ok := readIntent(intent)
	if !ok || !bytes.Equal(commit, layCommit(s, intent)) {
		return nil, false
	}
	for _, c := range changes {
		if !shadowMayBe(s, d, c) {
			return nil, false
		}
		sources = append(sources, c.name)
	}
	return sources, true
}

// shadowMayBe tells whether a shadow has the bytes that were to be, or isn't there.
func shadowMayBe(s *sums, d *disk.Disk, c change) bool {
	b, e := d.Read(shadow(c.name))
	return e == api.ErrNone || e == api.OK && s.theSummer().Of(b) == c.sum
}

// readIntent takes any bytes; it ends at the first change that isn't one, however many are said to come.
func readIntent(b []byte) (l []change, ok bool) {
	count, used, e := num.Get(b)
	if e != api.OK || count == 0 {
		return nil, false
	}
	rest, last := b[used:], ""
	for range count {
		c, used, ok := readChange(rest)
		if !ok || c.name <= last {
			return nil, false
		}
		l, rest, last = append(l, c), rest[used:], c.name
	}
	return l, len(rest) == 0
}

// readChange reads the change that b begins with, and tells how many bytes it has.
func readChange(b []byte) (c change, used int, ok bool) {
	length, used, e := num.Get(b)
	if e != api.OK || length > uint64(len(b)-used) {
		return change{}, 0, false
	}
	end := used + int(length)
	name := string(b[used:end])
	sum, e := num.Get4(b[end:])
	if e != api.OK || !Source(name) {
		return change{}, 0, false
	}
	return change{name, sum}, end + sumBytes, true
}
