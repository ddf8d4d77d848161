package journal

import (
	"blazon/api"
	"blazon/disk"
)

// A step is a call on a disk, or several; it answers the error at which it ended.
type step func() api.Errno

// inRow is the step that does these one behind the other, up to the first error.
func inRow(steps ...step) step {
	return func() api.Errno {
		for _, s := range steps {
			if e := s(); e != api.OK {
				return e
			}
		}
		return api.OK
	}
}

// twice is for calls that must not end halfway: one fault is passed over. Behind ErrCrash nothing can be done.
func twice(s step) step {
	return func() api.Errno {
		e := s()
		if e == api.OK || e == api.ErrCrash {
			return e
		}
		return s()
	}
}

func create(d *disk.Disk, name string) step {
	return func() api.Errno { return d.Create(name) }
}

// put lays bytes behind those of a file, and makes them sure.
func put(d *disk.Disk, name string, b []byte) step {
	return inRow(
		func() api.Errno { return d.Append(name, b) },
		func() api.Errno { return d.Sync(name) },
	)
}

// gone takes away names, and makes that sure.
func gone(d *disk.Disk, names ...string) step {
	var steps []step
	for _, name := range names {
		steps = append(steps, twice(func() api.Errno { return d.Remove(name) }))
	}
	return inRow(append(steps, twice(d.SyncDir))...)
}

// prepare is all that is done up to the commit: no source changes by it.
func prepare(s *sums, d *disk.Disk, files []api.File) step {
	intent := layIntent(s, files)
	steps := []step{create(d, journalName), put(d, journalName, layRecord(s, intentKind, intent)), d.SyncDir}
	for _, f := range files {
		steps = append(steps, create(d, shadow(f.Name)), put(d, shadow(f.Name), f.Data))
	}
	return inRow(append(steps, d.SyncDir, put(d, journalName, layRecord(s, commitKind, layCommit(s, intent))))...)
}

// goForward is what is done behind the commit, with those of the sources whose shadows are there: the
// others were renamed already, ahead of a power failure. The journal stays till all of that is sure.
func goForward(d *disk.Disk, sources []string) step {
	var steps []step
	for _, name := range sources {
		if !there(d, shadow(name)) {
			continue
		}
		steps = append(steps, twice(func() api.Errno { return d.Rename(shadow(name), name) }))
	}
	return inRow(append(steps, twice(d.SyncDir), gone(d, journalName))...)
}

// goBack takes away all that is hidden: a disk is clean ahead of a change, so that this is the change's
// own. The journal goes first, and surely: with a commit in it, and without some of the shadows, it would
// be taken for one that is forward halfway.
func goBack(d *disk.Disk) step {
	var journal, shadows []string
	for _, name := range hiddenNames(d) {
		if name == journalName {
			journal = append(journal, name)
			continue
		}
		shadows = append(shadows, name)
	}
	return inRow(gone(d, journal...), gone(d, shadows...))
}
