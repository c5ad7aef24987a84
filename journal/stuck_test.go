package journal_test

import (
	"testing"

	"cicerone/api"
	"cicerone/disk"
	"cicerone/event"
	"cicerone/journal"
)

// fill leaves no byte free on the disk.
func fill(t *testing.T, d *disk.Disk) {
	t.Helper()
	used := 0
	for _, name := range d.Names() {
		b, _ := d.Read(name)
		used += len(b)
	}
	is(t, d.Append("full", make([]byte, api.MaxDisk-used)), api.OK)
}

// isStuck holds a journal against being stuck with an error: it tells that one, and does nothing, whatever becomes of the disk.
func isStuck(t *testing.T, d *disk.Disk, l *journal.Log, want api.Errno, lasting int, entries ...int) {
	t.Helper()
	for range 2 {
		was := d.Copy()
		n, err := l.Append(of(1))
		told(t, n, err, 0, want)
		n, err = l.Append()
		told(t, n, err, 0, want)
		n, err = l.Append(of(1), event.Event{})
		told(t, n, err, 0, want)
		is(t, l.Sync(), want)
		n, asked, err := rewrite(l, entries...)
		told(t, n, err, 0, want)
		if len(asked) > 0 {
			t.Error("asked for", asked)
		}
		n, err = l.Rewrite(nil)
		told(t, n, err, 0, want)
		holds(t, l, lasting, entries...)
		if e, at, err := l.Read(len(entries)+1, 0); err != api.ErrRange || e != nil || at != nil {
			t.Error(err)
		}
		alike(t, d, was)
		// with the disk up again, and room on it
		d.Crash(1000, 1000, 1000)
		if _, err := d.Read("full"); err == api.OK {
			is(t, d.Remove("full"), api.OK)
		}
	}
}

// The calls that a disk can tell an error.
func appendOne(l *journal.Log) api.Errno { _, err := l.Append(of(50)); return err }
func syncIt(l *journal.Log) api.Errno    { return l.Sync() }
func eraseAll(l *journal.Log) api.Errno {
	_, err := l.Rewrite(func(event.Event) bool { return false })
	return err
}

// P5.2 to P5.5: stuck behind the first error of each call, at each of its steps.
func TestStuck(t *testing.T) {
	for what, c := range map[string]struct {
		call    func(*journal.Log) api.Errno
		steps   int
		entries []int
		lasting []int
		left    [][]int
	}{
		"append":          {appendOne, 1, []int{1}, []int{0}, [][]int{{1}}},
		"append to none":  {appendOne, 1, nil, []int{0}, [][]int{nil}},
		"begin a segment": {appendOne, 2, []int{1, 2}, []int{0, 2}, [][]int{{1, 2}, {1, 2}}},
		"sync":            {syncIt, 1, []int{1}, []int{0}, [][]int{{1}}},
		"rewrite":         {eraseAll, 2, []int{1, 2, 3}, []int{2, 2}, [][]int{{1, 2, 3}, {0, 0, 3}}},
	} {
		for fuse := range c.steps {
			d, l := start(t, 2, c.entries...)
			d.Arm(fuse)
			is(t, c.call(l), api.ErrDown)
			isStuck(t, d, l, api.ErrDown, c.lasting[fuse], c.left[fuse]...)
			if t.Failed() {
				t.Fatalf("%s, a fuse of %d", what, fuse)
			}
		}
		// a disk that is down already
		d, l := start(t, 2, c.entries...)
		lasting := l.Lasting()
		goDown(t, d)
		is(t, c.call(l), api.ErrDown)
		isStuck(t, d, l, api.ErrDown, lasting, c.entries...)
		if t.Failed() {
			t.Fatalf("%s, down", what)
		}
	}
}

// P5.2: the other errors that a disk can tell: no room, and a file that somebody took away.
func TestStuckWithOtherErrors(t *testing.T) {
	d, l := start(t, 2, 1)
	fill(t, d)
	n, err := l.Append(of(2))
	told(t, n, err, 1, api.ErrFull)
	isStuck(t, d, l, api.ErrFull, 0, 1)

	// the Sync ahead of a segment is done all the same
	d, l = start(t, 2, 1, 2)
	fill(t, d)
	n, err = l.Append(of(3), of(4))
	told(t, n, err, 2, api.ErrFull)
	isStuck(t, d, l, api.ErrFull, 2, 1, 2)

	// without room nothing else is wrong
	d, l = start(t, 2, 1, 2)
	fill(t, d)
	is(t, l.Sync(), api.OK)
	erases(t, l, []int{1}, []int{1, 2}, 2, 0, 2)

	d, l = start(t, 2, 1, 2)
	is(t, d.Remove("j.0"), api.OK)
	n, err = l.Append(of(3))
	told(t, n, err, 2, api.ErrMissing)
	isStuck(t, d, l, api.ErrMissing, 0, 1, 2)

	d, l = start(t, 2, 1, 2, 3)
	is(t, d.Remove("j.1"), api.OK)
	is(t, l.Sync(), api.ErrMissing)
	isStuck(t, d, l, api.ErrMissing, 2, 1, 2, 3)
}

// P5.2: it is the first error that a journal is stuck with.
func TestStuckWithTheFirstError(t *testing.T) {
	d, l := start(t, 2, 1)
	fill(t, d)
	is(t, appendOne(l), api.ErrFull)
	goDown(t, d)
	is(t, appendOne(l), api.ErrFull)
	is(t, syncIt(l), api.ErrFull)
	is(t, eraseAll(l), api.ErrFull)
}

// P5.2: what the journal itself tells doesn't make it stuck.
func TestNotStuck(t *testing.T) {
	d, l := start(t, 2, 1)
	_, err := l.Append(event.Event{})
	is(t, err, api.ErrArg)
	_, _, err = l.Read(2, 0)
	is(t, err, api.ErrRange)
	goDown(t, d)
	_, err = l.Append(of(2), event.Event{})
	is(t, err, api.ErrArg)
	n, err := l.Append()
	told(t, n, err, 1, api.OK)
	erases(t, l, nil, []int{1}, 0, 1)
	d.Crash(1000)
	mustAppend(t, l, 2)
	is(t, l.Sync(), api.OK)
	holds(t, l, 2, 1, 2)
}

// P5.2: behind an error, a crash, and Open, all goes on.
func TestOpenBehindStuck(t *testing.T) {
	d, l := start(t, 2, 1)
	d.Arm(0)
	is(t, appendOne(l), api.ErrDown)
	d.Crash(1000)
	l = mustOpen(t, d, "j", 2)
	holds(t, l, 2, 1, 50)
	mustAppend(t, l, 3)
	holds(t, l, 2, 1, 50, 3)
}
