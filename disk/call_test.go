package disk_test

import (
	"bytes"
	"math"
	"slices"
	"strings"
	"testing"

	"cicerone/api"
	"cicerone/disk"
)

// is holds an error against the one that is to be told.
func is(t *testing.T, got, want api.Errno) {
	t.Helper()
	if got != want {
		t.Errorf("told %d, not %d", got, want)
	}
}

// has holds a file's bytes against those that it is to have.
func has(t *testing.T, d *disk.Disk, name, want string) {
	t.Helper()
	if b, err := d.Read(name); err != api.OK || string(b) != want {
		t.Errorf("Read(%.20q): %.40q, %d, not %.40q", name, b, err, want)
	}
}

// hasNot holds a file against not being there.
func hasNot(t *testing.T, d *disk.Disk, name string) {
	t.Helper()
	if b, err := d.Read(name); err != api.ErrMissing || b != nil {
		t.Errorf("Read(%.20q): %.40q, %d: it is there", name, b, err)
	}
}

// named holds the names of all files against those that are to be there.
func named(t *testing.T, d *disk.Disk, want ...string) {
	t.Helper()
	if got := d.Names(); !slices.Equal(got, want) {
		t.Errorf("Names(): %q, not %q", got, want)
	}
}

// with is a disk with a file of that name, of which front lasts, and back doesn't.
func with(t *testing.T, name, front, back string) *disk.Disk {
	t.Helper()
	d := disk.New()
	add(t, d, name, front, back)
	return d
}

func add(t *testing.T, d *disk.Disk, name, front, back string) {
	t.Helper()
	is(t, d.Append(name, []byte(front)), api.OK)
	is(t, d.Sync(name), api.OK)
	is(t, d.Append(name, []byte(back)), api.OK)
}

// P4.1: New.
func TestNew(t *testing.T) {
	d := disk.New()
	named(t, d)
	hasNot(t, d, "f")
	if d.Down() {
		t.Error("a new disk is down")
	}
	for range 100 {
		is(t, d.Append("f", []byte("x")), api.OK)
	}
	has(t, d, "f", strings.Repeat("x", 100))
	named(t, disk.New())
}

// P4.1: the chapter's examples.
func TestExamples(t *testing.T) {
	d := with(t, "f", "ab", "cd")
	d.Crash(1)
	has(t, d, "f", "abc")

	d = disk.New()
	is(t, d.Append("f", []byte("x")), api.OK)
	d.Crash()
	hasNot(t, d, "f")
	named(t, d)

	d = disk.New()
	d.Arm(1)
	is(t, d.Append("f", []byte("x")), api.OK)
	is(t, d.Append("f", []byte("y")), api.ErrDown)
	b, err := d.Read("f")
	is(t, err, api.ErrDown)
	if b != nil {
		t.Errorf("%q beside ErrDown", b)
	}
}

// P4.1: Names rise byte by byte, whatever the order in which they came.
func TestNames(t *testing.T) {
	long := strings.Repeat("a", 64)
	rising := []string{"\x00", "\x00\x00", "\n", " ", "A", "Z", "a", "a\x00", "a.1", "a.10", "a.2", "aa", long, "b", "\u00e9", "\u4e16", "\xff", "\xff\xff"}
	d := disk.New()
	for _, i := range []int{7, 0, 17, 3, 12, 9, 1, 16, 4, 10, 2, 15, 5, 11, 14, 6, 13, 8} {
		is(t, d.Append(rising[i], []byte(rising[i])), api.OK)
	}
	named(t, d, rising...)
	for _, name := range rising {
		has(t, d, name, name)
	}
	is(t, d.Remove("a.10"), api.OK)
	named(t, d, slices.DeleteFunc(slices.Clone(rising), func(s string) bool { return s == "a.10" })...)
}

// P4.1: Append.
func TestAppend(t *testing.T) {
	d := disk.New()
	is(t, d.Append("f", nil), api.OK)
	has(t, d, "f", "")
	named(t, d, "f")
	is(t, d.Append("f", []byte("ab")), api.OK)
	is(t, d.Append("g", []byte{}), api.OK)
	is(t, d.Append("f", []byte{0, 255}), api.OK)
	is(t, d.Append("f", nil), api.OK)
	is(t, d.Append("g", []byte("g")), api.OK)
	is(t, d.Append("f", []byte("ab")), api.OK)
	has(t, d, "f", "ab\x00\xffab")
	has(t, d, "g", "g")
	named(t, d, "f", "g")
	d.Crash()
	named(t, d)
}

// P4.1: Sync; what it made last lasts when it is told again, and when more is behind it.
func TestSync(t *testing.T) {
	d := disk.New()
	is(t, d.Append("f", []byte("ab")), api.OK)
	is(t, d.Append("g", []byte("g")), api.OK)
	is(t, d.Sync("f"), api.OK)
	is(t, d.Sync("f"), api.OK)
	is(t, d.Append("f", []byte("c")), api.OK)
	is(t, d.Sync("f"), api.OK)
	is(t, d.Append("f", []byte("d")), api.OK)
	has(t, d, "f", "abcd")
	d.Crash()
	has(t, d, "f", "abc")
	named(t, d, "f")
}

// P4.1: a file without bytes stays once it is synced.
func TestSyncOfNoBytes(t *testing.T) {
	d := with(t, "f", "", "")
	is(t, d.Append("g", nil), api.OK)
	d.Crash()
	named(t, d, "f")
	has(t, d, "f", "")
}

// P4.1: Read changes nothing.
func TestRead(t *testing.T) {
	d := with(t, "f", "ab", "cd")
	for range 3 {
		has(t, d, "f", "abcd")
	}
	hasNot(t, d, "g")
	named(t, d, "f")
	d.Crash(1)
	has(t, d, "f", "abc")
}

// P4.1: Replace, of files that are there, and of new ones; all lasts.
func TestReplace(t *testing.T) {
	for _, b := range []string{"", "x", "wxyz", "longer than it was"} {
		d := with(t, "f", "ab", "cd")
		is(t, d.Replace("f", []byte(b)), api.OK)
		has(t, d, "f", b)
		is(t, d.Replace("new", []byte(b)), api.OK)
		has(t, d, "new", b)
		is(t, d.Append("f", []byte("behind")), api.OK)
		has(t, d, "f", b+"behind")
		d.Crash()
		named(t, d, "f", "new")
		has(t, d, "f", b)
		has(t, d, "new", b)
	}
}

// P4.1: Remove, whatever happens.
func TestRemove(t *testing.T) {
	d := with(t, "f", "ab", "cd")
	add(t, d, "g", "g", "")
	is(t, d.Remove("f"), api.OK)
	hasNot(t, d, "f")
	is(t, d.Remove("f"), api.ErrMissing)
	is(t, d.Sync("f"), api.ErrMissing)
	d.Crash(9, 9)
	named(t, d, "g")
	hasNot(t, d, "f")

	// one of that name that comes later is a new one: nothing of it lasts, and it doesn't stay
	d = with(t, "f", "ab", "cd")
	is(t, d.Remove("f"), api.OK)
	is(t, d.Append("f", []byte("xyz")), api.OK)
	has(t, d, "f", "xyz")
	d.Crash()
	named(t, d)
}

// P4.1: names of any bytes, of 1 to 64.
func TestNamesThatMayBe(t *testing.T) {
	for _, name := range []string{"f", "\x00", "\xff", " ", "/", "a\nb", strings.Repeat("n", 63), strings.Repeat("n", 64), strings.Repeat("\u00e9", 32)} {
		d := with(t, name, "ab", "cd")
		has(t, d, name, "abcd")
		is(t, d.Replace(name, []byte("x")), api.OK)
		named(t, d, name)
		is(t, d.Remove(name), api.OK)
		named(t, d)
	}
}

// P4.1: the numbers' ends.
func TestEnds(t *testing.T) {
	d := with(t, "f", "ab", "cd")
	add(t, d, "g", "", "xyz")
	d.Arm(math.MaxInt)
	is(t, d.Sync("g"), api.OK)
	is(t, d.Append("g", []byte("!")), api.OK)
	d.Arm(math.MinInt)
	is(t, d.Append("g", []byte("?")), api.OK)
	d.Crash(math.MaxInt, math.MinInt)
	has(t, d, "f", "abcd")
	has(t, d, "g", "xyz")
}

// R4: what is handed in isn't changed, nor its spare room, nor kept.
func TestHandedIn(t *testing.T) {
	d := disk.New()
	for _, write := range []func(string, []byte) api.Errno{d.Append, d.Replace} {
		spare := []byte("abcdef")
		b := spare[:3]
		is(t, write("f", b), api.OK)
		is(t, d.Append("f", []byte("xyz")), api.OK)
		if string(spare) != "abcdef" {
			t.Errorf("%q was changed", spare)
		}
		copy(spare, "------")
		has(t, d, "f", "abcxyz")
		is(t, d.Sync("f"), api.OK)
		copy(spare, "++++++")
		d.Crash()
		has(t, d, "f", "abcxyz")
		is(t, d.Remove("f"), api.OK)
	}
	keep := []int{7, -1, 1, 5, 9}
	add(t, d, "f", "", "abc")
	add(t, d, "g", "", "abc")
	add(t, d, "h", "", "abc")
	d.Crash(keep[:3]...)
	has(t, d, "f", "abc")
	has(t, d, "g", "")
	has(t, d, "h", "a")
	if !slices.Equal(keep, []int{7, -1, 1, 5, 9}) {
		t.Error(keep)
	}
}

// R4: an answer is new memory.
func TestAnswers(t *testing.T) {
	d := with(t, "f", "ab", "cd")
	add(t, d, "g", "g", "")
	b, _ := d.Read("f")
	other, _ := d.Read("f")
	copy(b, "------")
	_ = append(b[:1], "++++++"...)
	if string(other) != "abcd" {
		t.Errorf("%q: two answers share", other)
	}
	has(t, d, "f", "abcd")
	is(t, d.Append("f", []byte("ef")), api.OK)
	has(t, d, "f", "abcdef")
	if string(other) != "abcd" || string(b) == "abcd" {
		t.Errorf("%q, %q", other, b)
	}
	is(t, d.Replace("g", other), api.OK)
	copy(other, "....")
	has(t, d, "g", "abcd")

	names := d.Names()
	names[0], names[1] = "y", "x"
	_ = append(names[:0], "z")
	named(t, d, "f", "g")
	d.Crash(1)
	has(t, d, "f", "abc")
	if !bytes.Equal(other, []byte("....")) {
		t.Errorf("%q", other)
	}
}
