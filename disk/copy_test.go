package disk_test

import (
	"testing"

	"cicerone/api"
	"cicerone/disk"
)

// P4.1: a copy is as the disk is: files, what lasts, which stay, the fuse, whether it is down.
func TestCopyIsAsItIs(t *testing.T) {
	for steps := -1; steps < 4; steps++ {
		for done := range 6 {
			d := with(t, "f", "ab", "cd")
			is(t, d.Append("g", []byte("xyz")), api.OK)
			is(t, d.Append("h", nil), api.OK)
			is(t, d.Replace("i", nil), api.OK)
			d.Arm(steps)
			for range done {
				d.Append("f", []byte("e"))
			}
			c := d.Copy()
			down := steps >= 0 && done > steps
			if c.Down() != down {
				t.Errorf("%d steps of %d: down is %v", done, steps, c.Down())
			}
			named(t, c, "f", "g", "h", "i")
			if !down {
				has(t, c, "f", "abcd"+"eeeeee"[:done])
				has(t, c, "g", "xyz")
			}
			for left := steps - done; steps >= 0 && left > 0; left-- {
				is(t, c.Append("f", []byte("e")), api.OK)
			}
			if steps >= 0 {
				is(t, c.Append("f", []byte("e")), api.ErrDown)
			}
			c.Crash(1, 2)
			named(t, c, "f", "g", "i")
			has(t, c, "f", "abc")
			has(t, c, "g", "xy")
			has(t, c, "i", "")
		}
	}
}

// P4.1: a copy goes on by itself, and so does what it was made of.
func TestCopyGoesOnByItself(t *testing.T) {
	for _, change := range []func(d *disk.Disk){
		func(d *disk.Disk) { d.Append("f", []byte("xyz")) },
		func(d *disk.Disk) { d.Append("new", []byte("xyz")) },
		func(d *disk.Disk) { d.Sync("f") },
		func(d *disk.Disk) { d.Sync("h") },
		func(d *disk.Disk) { d.Replace("f", []byte("other")) },
		func(d *disk.Disk) { d.Replace("new", nil) },
		func(d *disk.Disk) { d.Remove("f") },
		func(d *disk.Disk) { d.Arm(0) },
		func(d *disk.Disk) { d.Arm(0); d.Sync("f") },
		func(d *disk.Disk) { d.Arm(0); d.Append("new", nil) },
		func(d *disk.Disk) { d.Crash() },
		func(d *disk.Disk) { d.Crash(9, 9, 9) },
		func(d *disk.Disk) { d.Crash(1); d.Append("f", []byte("--")) },
	} {
		for _, steps := range []int{-1, 2} {
			d := with(t, "f", "ab", "cd")
			is(t, d.Append("g", []byte("g")), api.OK)
			is(t, d.Append("h", nil), api.OK)
			d.Arm(steps)
			was := look(d)
			c := d.Copy()
			if now := look(c); now != was {
				t.Fatalf("a copy is\n%s, and not\n%s", now, was)
			}
			change(c)
			changed := look(c)
			if now := look(d); now != was {
				t.Errorf("what was copied is\n%s, and was\n%s", now, was)
			}
			change(d)
			if now := look(d); now != changed {
				t.Errorf("the same is told to it, and it is\n%s, and not\n%s", now, changed)
			}
			change(d)
			if now := look(c); now != changed {
				t.Errorf("a copy is\n%s, and was\n%s", now, changed)
			}
		}
	}
}

// P4.1: both append behind the same bytes.
func TestCopyAppends(t *testing.T) {
	d := disk.New()
	for range 5 {
		is(t, d.Append("f", []byte("ab")), api.OK)
	}
	d.Crash(7)
	c := d.Copy()
	is(t, d.Append("f", []byte("12")), api.OK)
	is(t, c.Append("f", []byte("xy")), api.OK)
	has(t, d, "f", "abababa12")
	has(t, c, "f", "abababaxy")
}

// P4.1: a copy has the room that is left, of bytes and of files.
func TestCopyHasTheRoom(t *testing.T) {
	d := with(t, "f", "ab", "cd")
	c := d.Copy()
	is(t, c.Append("g", make([]byte, api.MaxDisk-3)), api.ErrFull)
	is(t, c.Append("g", make([]byte, api.MaxDisk-4)), api.OK)
	is(t, d.Append("g", make([]byte, api.MaxDisk-4)), api.OK)
	is(t, d.Copy().Append("f", []byte("x")), api.ErrFull)

	d = crowded(t, 4096)
	is(t, d.Copy().Append("new", nil), api.ErrFull)
	c = d.Copy()
	is(t, c.Remove("0"), api.OK)
	is(t, c.Append("new", nil), api.OK)
	is(t, d.Append("new", nil), api.ErrFull)
}

// P4.1: a copy of a disk without files.
func TestCopyOfNothing(t *testing.T) {
	d := disk.New()
	c := d.Copy()
	named(t, c)
	is(t, c.Append("f", []byte("x")), api.OK)
	named(t, d)
	named(t, c, "f")
}
