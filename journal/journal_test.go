package journal_test

import (
	"math"
	"slices"
	"strconv"
	"strings"
	"testing"

	"cicerone/api"
	"cicerone/disk"
	"cicerone/event"
	"cicerone/frame"
	"cicerone/journal"
)

// In these tests an entry is told by a number: of 1 or more it is the event of that number, 0 is an erased one.

// mark is a name that no other number's event has anything of.
func mark(n int) string {
	return "x" + strconv.Itoa(n) + "x"
}

// of is the event of a number; their kinds and lengths are unlike.
func of(n int) event.Event {
	e := event.Event{Source: "s", Number: n, At: n * 1000}
	switch n % 4 {
	case 0:
		e.Kind, e.Item, e.Value, e.Text = event.Listed, mark(n), n%999, "maker;a,tag"
	case 1:
		e.Kind, e.Person, e.Item = event.Opened, mark(n), "q"
	case 2:
		e.Kind, e.Person, e.Item, e.Value = event.Rated, mark(n), "another-thing", 5
	default:
		e.Kind, e.Person = event.Forgotten, mark(n)
	}
	return e
}

func events(numbers ...int) []event.Event {
	var all []event.Event
	for _, n := range numbers {
		all = append(all, of(n))
	}
	return all
}

func sealed(payload string) string {
	b, err := frame.Seal([]byte(payload))
	if err != api.OK {
		panic(err)
	}
	return string(b)
}

func encoded(e event.Event) string {
	b, err := event.Encode(e)
	if err != api.OK {
		panic(err)
	}
	return string(b)
}

// written is the bytes of a file of these entries.
func written(numbers ...int) string {
	all := ""
	for _, n := range numbers {
		if n == 0 {
			all += sealed("")
		} else {
			all += sealed(encoded(of(n)))
		}
	}
	return all
}

// is holds an error against the one that is to be told.
func is(t *testing.T, got, want api.Errno) {
	t.Helper()
	if got != want {
		t.Errorf("told %d, not %d", got, want)
	}
}

// told holds a number and an error against those that are to be told.
func told(t *testing.T, n int, err api.Errno, want int, wantErr api.Errno) {
	t.Helper()
	if n != want || err != wantErr {
		t.Errorf("told %d, %d, not %d, %d", n, err, want, wantErr)
	}
}

func mustOpen(t *testing.T, d *disk.Disk, name string, per int) *journal.Log {
	t.Helper()
	l, err := journal.Open(d, name, per)
	if err != api.OK || l == nil {
		t.Fatalf("Open(%q, %d): %d", name, per, err)
	}
	return l
}

func mustAppend(t *testing.T, l *journal.Log, numbers ...int) {
	t.Helper()
	want := l.Len()
	if n, err := l.Append(events(numbers...)...); n != want || err != api.OK {
		t.Fatalf("Append(%d): %d, %d, not %d", numbers, n, err, want)
	}
}

// start is a new disk, and a journal j on it with these entries, erased ones among them, of which none was synced but by the way.
func start(t *testing.T, per int, numbers ...int) (*disk.Disk, *journal.Log) {
	t.Helper()
	d := disk.New()
	l := mustOpen(t, d, "j", per)
	for i, n := range numbers {
		if n == 0 {
			mustAppend(t, l, 1000000+i)
		} else {
			mustAppend(t, l, n)
		}
	}
	if slices.Contains(numbers, 0) {
		_, err := l.Rewrite(func(e event.Event) bool { return e.Number < 1000000 })
		is(t, err, api.OK)
	}
	return d, l
}

// holds holds all that a journal tells against these entries, of which so many last.
func holds(t *testing.T, l *journal.Log, lasting int, numbers ...int) {
	t.Helper()
	if l.Len() != len(numbers) || l.Lasting() != lasting {
		t.Errorf("%d entries, of which %d last, not %d, %d", l.Len(), l.Lasting(), len(numbers), lasting)
	}
	var want []event.Event
	var places []int
	for i, n := range numbers {
		if n > 0 {
			want, places = append(want, of(n)), append(places, i)
		}
	}
	got, at, err := l.Read(0, l.Len())
	if err != api.OK || !slices.Equal(got, want) || !slices.Equal(at, places) {
		t.Errorf("Read: %v, %v, %d, not %v, %v", got, at, err, want, places)
	}
}

// lies holds all files of a disk against these names and bytes, by turns.
func lies(t *testing.T, d *disk.Disk, want ...string) {
	t.Helper()
	var got []string
	for _, name := range d.Names() {
		b, err := d.Read(name)
		is(t, err, api.OK)
		got = append(got, name, string(b))
	}
	if !slices.Equal(got, want) {
		t.Errorf("on the disk lies\n%q, not\n%q", got, want)
	}
}

// afterCrash is what lies on a copy of the disk behind a crash that leaves of each file so many of the bytes that don't last.
func afterCrash(d *disk.Disk, left int) string {
	c := d.Copy()
	c.Crash(slices.Repeat([]int{left}, 4096)...)
	var all []string
	for _, name := range c.Names() {
		b, _ := c.Read(name)
		all = append(all, strconv.Quote(name), strconv.Quote(string(b)))
	}
	return strings.Join(all, " ")
}

// fuse is how many steps a disk still does, as far as 99.
func fuse(d *disk.Disk) int {
	c := d.Copy()
	n := 0
	for n < 99 && c.Append("fuse", nil) == api.OK {
		n++
	}
	return n
}

// alike holds all of two disks against each other: what lies there, what of it lasts, the fuse, and whether they are down.
func alike(t *testing.T, got, want *disk.Disk) {
	t.Helper()
	if got.Down() != want.Down() || fuse(got) != fuse(want) {
		t.Errorf("down is %v, not %v; the fuse is %d, not %d", got.Down(), want.Down(), fuse(got), fuse(want))
	}
	for _, left := range []int{math.MaxInt, 0} {
		if a, b := afterCrash(got, left), afterCrash(want, left); a != b {
			t.Errorf("behind a crash that leaves %d lies\n%s, not\n%s", left, a, b)
		}
	}
}

// step is one that a disk is told.
type step struct{ word, name, bytes string }

func do(d *disk.Disk, s step) api.Errno {
	switch s.word {
	case "append":
		return d.Append(s.name, []byte(s.bytes))
	case "sync":
		return d.Sync(s.name)
	case "replace":
		return d.Replace(s.name, []byte(s.bytes))
	}
	return d.Remove(s.name)
}

// theSteps holds what a call does to a disk against these steps, one behind the other: with each fuse, and without one. The call tells how many steps went well.
func theSteps(t *testing.T, begin func() (*disk.Disk, *journal.Log), call func(d *disk.Disk, l *journal.Log, done int) api.Errno, steps ...step) {
	t.Helper()
	for n := -1; n <= len(steps); n++ {
		d, l := begin()
		d.Arm(n)
		c := d.Copy()
		want, done := api.OK, 0
		for _, s := range steps {
			if want = do(c, s); want != api.OK {
				break
			}
			done++
		}
		if err := call(d, l, done); err != want {
			t.Errorf("a fuse of %d: told %d, not %d", n, err, want)
		}
		alike(t, d, c)
		if t.Failed() {
			t.Fatalf("a fuse of %d, %d steps done", n, done)
		}
	}
}

// P5.1, P5.2, P5.3: the chapter's example.
func TestExample(t *testing.T) {
	d := disk.New()
	l := mustOpen(t, d, "j", 2)
	n, err := l.Append(of(1), of(2), of(3))
	told(t, n, err, 0, api.OK)
	holds(t, l, 2, 1, 2, 3)
	if names := d.Names(); !slices.Equal(names, []string{"j.0", "j.1"}) {
		t.Error(names)
	}
	is(t, l.Sync(), api.OK)
	holds(t, l, 3, 1, 2, 3)
}

// P5.2, P5.5: the bytes of a file, to the letter.
func TestBytes(t *testing.T) {
	d := disk.New()
	l := mustOpen(t, d, "j", 4)
	e := event.Event{Source: "a", Number: 300, At: 5, Kind: event.Seen, Person: "p", Item: "q"}
	_, err := l.Append(e, of(1))
	is(t, err, api.OK)
	n, err := l.Rewrite(func(e event.Event) bool { return e.Number != 1 })
	told(t, n, err, 1, api.OK)
	payload := "\x00\x01a\xac\x02\x05\x01p\x01q\x00\x00"
	// the first sum is that of all bytes and 1, the second one that of all first ones
	head := "\x00\x00\x0c\xff\xff\xf3"
	first, second := 1, 0
	for _, c := range []byte(head + payload) {
		first += int(c)
		second += first
	}
	sum := string([]byte{byte(second >> 8), byte(second), byte(first >> 8), byte(first)})
	lies(t, d, "j.0", head+payload+sum+"\x00\x00\x00\xff\xff\xff\x06\x00\x02\xfe")
}

// P5.2: the names of the files: k as decimal digits.
func TestNamesOfFiles(t *testing.T) {
	for _, name := range []string{"j", "-", "0", "a-name-of-24-bytes-in-all"[:24]} {
		d := disk.New()
		l := mustOpen(t, d, name, 1)
		var want []string
		for k := range 112 {
			mustAppend(t, l, k+1)
			want = append(want, name+"."+strconv.Itoa(k))
		}
		slices.Sort(want)
		if got := d.Names(); !slices.Equal(got, want) {
			t.Errorf("%q", got)
		}
		for k := range 112 {
			if b, err := d.Read(name + "." + strconv.Itoa(k)); err != api.OK || string(b) != written(k+1) {
				t.Errorf("%d: %q, %d", k, b, err)
			}
		}
	}
}

// P5.1 to P5.5: journals of unlike names on one disk have nothing to do with each other.
func TestTwoJournals(t *testing.T) {
	d := disk.New()
	is(t, d.Append("other", []byte("a file of somebody else")), api.OK)
	a, b := mustOpen(t, d, "j", 2), mustOpen(t, d, "jj", 1)
	mustAppend(t, a, 1, 2)
	mustAppend(t, b, 11)
	mustAppend(t, a, 3)
	mustAppend(t, b, 12, 13)
	holds(t, a, 2, 1, 2, 3)
	holds(t, b, 2, 11, 12, 13)
	is(t, a.Sync(), api.OK)
	holds(t, b, 2, 11, 12, 13)
	n, err := b.Rewrite(func(event.Event) bool { return false })
	told(t, n, err, 3, api.OK)
	holds(t, a, 3, 1, 2, 3)
	holds(t, b, 3, 0, 0, 0)
	lies(t, d, "j.0", written(1, 2), "j.1", written(3), "jj.0", written(0), "jj.1", written(0), "jj.2", written(0), "other", "a file of somebody else")
	d.Crash()
	holds(t, mustOpen(t, d, "j", 2), 3, 1, 2, 3)
	holds(t, mustOpen(t, d, "jj", 1), 3, 0, 0, 0)
	lies(t, d, "j.0", written(1, 2), "j.1", written(3), "jj.0", written(0), "jj.1", written(0), "jj.2", written(0))

	// a journal that is stuck leaves the other one as it is, till the disk tells that one, too
	a, b = mustOpen(t, d, "j", 2), mustOpen(t, d, "jj", 1)
	d.Arm(0)
	n, err = a.Append(of(4))
	told(t, n, err, 3, api.ErrDown)
	d.Crash()
	is(t, a.Sync(), api.ErrDown)
	is(t, b.Sync(), api.OK)
	mustAppend(t, b, 14)
	holds(t, b, 3, 0, 0, 0, 14)
}
