package disk_test

import (
	"fmt"
	"slices"
	"strings"
	"testing"

	"cicerone/api"
	"cicerone/disk"
)

// look is all that can be told of a disk: its files, what lasts of them, which stay, the fuse, and whether it is down.
func look(d *disk.Disk) string {
	crashed := d.Copy()
	crashed.Crash()
	return fmt.Sprintf("%q %v | %q | fuse %d, down %v", d.Names(), everything(d), everything(crashed), fuse(d), d.Down())
}

// fuse is how many steps are done before the disk goes down, up to 20.
func fuse(d *disk.Disk) int {
	c := d.Copy()
	name := "probe"
	if names := c.Names(); len(names) > 0 {
		name = names[0]
	}
	for i := range 20 {
		if c.Append(name, nil) != api.OK {
			return i
		}
	}
	return 20
}

// call is one of the five that tell errors; of the name and the bytes it takes what it needs.
type call struct {
	word string
	do   func(d *disk.Disk, name string, b []byte) api.Errno
}

func calls(t *testing.T) []call {
	return []call{
		{"Append", func(d *disk.Disk, name string, b []byte) api.Errno { return d.Append(name, b) }},
		{"Replace", func(d *disk.Disk, name string, b []byte) api.Errno { return d.Replace(name, b) }},
		{"Sync", func(d *disk.Disk, name string, b []byte) api.Errno { return d.Sync(name) }},
		{"Remove", func(d *disk.Disk, name string, b []byte) api.Errno { return d.Remove(name) }},
		{"Read", func(d *disk.Disk, name string, b []byte) api.Errno {
			text, err := d.Read(name)
			if err != api.OK && text != nil {
				t.Errorf("%q beside %d", text, err)
			}
			return err
		}},
	}
}

var (
	writers = []string{"Append", "Replace"}
	finders = []string{"Sync", "Remove", "Read"}
)

// refused holds a call against the error that it is to tell, and the disk against being as it was.
func refused(t *testing.T, d *disk.Disk, c call, name string, b []byte, want api.Errno) {
	t.Helper()
	was := look(d)
	if err := c.do(d, name, b); err != want {
		t.Errorf("%s(%.10q, %d bytes) tells %d, not %d", c.word, name, len(b), err, want)
	}
	if now := look(d); now != was {
		t.Errorf("%s(%.10q, %d bytes) tells an error, and the disk is\n%s, and was\n%s", c.word, name, len(b), now, was)
	}
}

// disks are some that have more and less, with fuses and without.
func disks(t *testing.T) []*disk.Disk {
	var all []*disk.Disk
	for fuse := -1; fuse < 3; fuse++ {
		some := with(t, "f", "ab", "cd")
		add(t, some, "g", "", "xyz")
		is(t, some.Append("h", nil), api.OK)
		is(t, some.Append("i", []byte("i")), api.OK)
		for _, d := range []*disk.Disk{disk.New(), some} {
			d.Arm(fuse)
			all = append(all, d)
		}
	}
	return all
}

// wrongNames have no bytes, or more than 64.
func wrongNames() []string {
	return []string{"", strings.Repeat("n", 65), strings.Repeat("\u00e9", 33), strings.Repeat("n", 1000)}
}

// P4.1: ErrArg, with a fuse at its end too, and ahead of ErrMissing and ErrFull.
func TestErrArg(t *testing.T) {
	tooMany := make([]byte, api.MaxDisk+1)
	for _, d := range disks(t) {
		for _, c := range calls(t) {
			for _, name := range wrongNames() {
				for _, b := range [][]byte{nil, []byte("x"), tooMany} {
					refused(t, d, c, name, b, api.ErrArg)
				}
			}
		}
	}
	d := crowded(t, 4096)
	for _, c := range calls(t) {
		is(t, c.do(d, "", []byte("x")), api.ErrArg)
		is(t, c.do(d, strings.Repeat("n", 65), []byte("x")), api.ErrArg)
	}
}

// P4.1: ErrMissing, with a fuse at its end too; never of Append and Replace.
func TestErrMissing(t *testing.T) {
	for _, d := range disks(t) {
		for _, c := range calls(t) {
			if !slices.Contains(finders, c.word) {
				continue
			}
			for _, name := range []string{"e", "ff", "F", "f\x00", "\x00", strings.Repeat("n", 64)} {
				refused(t, d, c, name, nil, api.ErrMissing)
			}
		}
	}
	for _, c := range calls(t) {
		if slices.Contains(writers, c.word) {
			d := disk.New()
			is(t, c.do(d, "f", []byte("x")), api.OK)
			has(t, d, "f", "x")
		}
	}
}

// P4.1: ErrFull, with a fuse at its end too; never of the others.
func TestErrFull(t *testing.T) {
	tooMany := make([]byte, api.MaxDisk+1)
	for _, d := range disks(t) {
		for _, c := range calls(t) {
			if !slices.Contains(writers, c.word) {
				continue
			}
			for _, name := range []string{"f", "h", "new"} {
				refused(t, d, c, name, tooMany, api.ErrFull)
			}
		}
	}
	d := crowded(t, 4096)
	d.Arm(0)
	is(t, d.Append("new", nil), api.ErrFull)
	is(t, d.Replace("new", nil), api.ErrFull)
	if d.Down() {
		t.Error("what is full takes nothing off a fuse")
	}
	d.Arm(-1)
	is(t, d.Append("0", make([]byte, api.MaxDisk-4096)), api.OK)
	is(t, d.Sync("0"), api.OK)
	has(t, d, "7", "x")
	is(t, d.Remove("0"), api.OK)
}

// P4.1: of a disk that is down each call tells ErrDown, ahead of all else; Names and Down answer.
func TestErrDown(t *testing.T) {
	for _, d := range disks(t) {
		d.Arm(0)
		is(t, d.Append("j", []byte("j")), api.ErrDown)
		names := d.Names()
		if !slices.Contains(names, "j") || !d.Down() {
			t.Error(names, d.Down())
		}
		for _, c := range calls(t) {
			for _, name := range append(wrongNames(), "f", "g", "h", "j", "missing") {
				for _, b := range [][]byte{nil, []byte("x"), make([]byte, api.MaxDisk+1)} {
					refused(t, d, c, name, b, api.ErrDown)
				}
			}
		}
		named(t, d, names...)
		// a fuse that is lit doesn't bring it up
		for _, steps := range []int{-1, 0, 1, 9} {
			d.Arm(steps)
			if !d.Down() {
				t.Error("Arm brought it up")
			}
			is(t, d.Append("f", nil), api.ErrDown)
		}
		named(t, d, names...)
		d.Crash()
		if d.Down() || fuse(d) != 20 {
			t.Error("a crash brings it up, without a fuse")
		}
		is(t, d.Append("j", []byte("x")), api.OK)
		has(t, d, "j", "x")
	}
}
