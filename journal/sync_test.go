package journal_test

import (
	"testing"

	"cicerone/api"
	"cicerone/disk"
	"cicerone/journal"
)

// P5.3: behind a Sync all entries last; what comes behind doesn't, till the next one.
func TestSync(t *testing.T) {
	d, l := start(t, 3, 1)
	holds(t, l, 0, 1)
	is(t, l.Sync(), api.OK)
	holds(t, l, 1, 1)
	mustAppend(t, l, 2)
	holds(t, l, 1, 1, 2)
	c := d.Copy()
	c.Crash()
	lies(t, c, "j.0", written(1))
	is(t, l.Sync(), api.OK)
	is(t, l.Sync(), api.OK)
	holds(t, l, 2, 1, 2)
	mustAppend(t, l, 3, 4)
	holds(t, l, 3, 1, 2, 3, 4)
	is(t, l.Sync(), api.OK)
	holds(t, l, 4, 1, 2, 3, 4)
	d.Crash()
	lies(t, d, "j.0", written(1, 2, 3), "j.1", written(4))
	holds(t, mustOpen(t, d, "j", 3), 4, 1, 2, 3, 4)
}

// P5.3: without a file OK, and nothing is done, of a disk that is down, too.
func TestSyncOfNothing(t *testing.T) {
	d, l := start(t, 2)
	d.Arm(0)
	is(t, l.Sync(), api.OK)
	holds(t, l, 0)
	if d.Down() || len(d.Names()) > 0 {
		t.Error("something was done")
	}
	goDown(t, d)
	is(t, l.Sync(), api.OK)
	n, err := l.Rewrite(nil)
	told(t, n, err, 0, api.OK)
	n, err = l.Append()
	told(t, n, err, 0, api.OK)
	d.Crash()
	mustAppend(t, l, 1)
	holds(t, l, 0, 1)
}

// P5.3: what a Sync does on the disk, with each fuse: one step, about the last file.
func TestStepsOfSync(t *testing.T) {
	for _, c := range []struct {
		per, lasting int
		last         string
		entries      []int
	}{
		{2, 0, "j.0", []int{1}},
		{2, 0, "j.0", []int{1, 2}},
		{2, 2, "j.1", []int{1, 2, 3}},
		{1, 2, "j.2", []int{1, 2, 3}},
		{1, 11, "j.11", []int{1, 2, 3, 4, 5, 6, 7, 8, 9, 10, 11, 12}},
	} {
		theSteps(t, func() (*disk.Disk, *journal.Log) {
			return start(t, c.per, c.entries...)
		}, func(_ *disk.Disk, l *journal.Log, done int) api.Errno {
			err := l.Sync()
			if done == 1 {
				holds(t, l, len(c.entries), c.entries...)
			} else {
				holds(t, l, c.lasting, c.entries...)
			}
			return err
		}, step{"sync", c.last, ""})
	}
}

// P5.3: Len and Lasting, of erased ones too, and they do nothing.
func TestLenAndLasting(t *testing.T) {
	d, l := start(t, 2, 0, 2, 0)
	if l.Len() != 3 || l.Lasting() != 3 {
		t.Error(l.Len(), l.Lasting())
	}
	mustAppend(t, l, 4)
	d.Arm(0)
	for range 3 {
		if l.Len() != 4 || l.Lasting() != 3 {
			t.Error(l.Len(), l.Lasting())
		}
	}
	if d.Down() {
		t.Error("a step was done")
	}
}
