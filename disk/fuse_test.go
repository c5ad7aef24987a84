package disk_test

import (
	"strconv"
	"testing"

	"cicerone/api"
	"cicerone/disk"
)

// goesDown holds a call that meets a fuse's end.
func goesDown(t *testing.T, d *disk.Disk, err api.Errno) {
	t.Helper()
	is(t, err, api.ErrDown)
	if !d.Down() {
		t.Error("it isn't down")
	}
}

// P4.1: a fuse of so many lets so many steps be done, of each kind.
func TestFuse(t *testing.T) {
	steps := []func(d *disk.Disk, i int) api.Errno{
		func(d *disk.Disk, i int) api.Errno { return d.Append("f", []byte("x")) },
		func(d *disk.Disk, i int) api.Errno { return d.Sync("f") },
		func(d *disk.Disk, i int) api.Errno { return d.Replace("f", []byte("yz")) },
		func(d *disk.Disk, i int) api.Errno { return d.Remove("gone" + strconv.Itoa(i)) },
	}
	for fuse := range 8 {
		for first := range steps {
			d := with(t, "f", "ab", "cd")
			for i := range 8 {
				add(t, d, "gone"+strconv.Itoa(i), "x", "")
			}
			d.Arm(fuse)
			for i := range 8 {
				want := api.OK
				if i >= fuse {
					want = api.ErrDown
				}
				is(t, steps[(first+i)%len(steps)](d, i), want)
				if d.Down() != (want == api.ErrDown) {
					t.Errorf("fuse %d, step %d: down is %v", fuse, i, d.Down())
				}
			}
		}
	}
}

// P4.1: without a fuse, or with one that was put out, each step is done.
func TestNoFuse(t *testing.T) {
	for _, steps := range []int{-1, -2, -1 << 62} {
		d := disk.New()
		d.Arm(0)
		d.Arm(steps)
		for range 50 {
			is(t, d.Append("f", []byte("x")), api.OK)
			is(t, d.Sync("f"), api.OK)
			is(t, d.Replace("f", nil), api.OK)
			is(t, d.Remove("f"), api.OK)
		}
	}
}

// P4.1: lighting a fuse brings nothing down by itself.
func TestArm(t *testing.T) {
	d := with(t, "f", "ab", "cd")
	d.Arm(0)
	if d.Down() {
		t.Error("down ahead of a step")
	}
	has(t, d, "f", "abcd")
	named(t, d, "f")
	if d.Down() {
		t.Error("Read and Names are no steps")
	}
	goesDown(t, d, d.Sync("f"))
}

// P4.1: a fuse that is lit while another one burns takes its place.
func TestArmAgain(t *testing.T) {
	for _, steps := range []int{0, 1, 2, 5} {
		d := disk.New()
		d.Arm(3)
		is(t, d.Append("f", []byte("x")), api.OK)
		d.Arm(steps)
		for range steps {
			is(t, d.Append("f", []byte("x")), api.OK)
		}
		goesDown(t, d, d.Append("f", []byte("x")))
	}
	d := disk.New()
	d.Arm(1)
	is(t, d.Append("f", []byte("x")), api.OK)
	d.Arm(-1)
	for range 20 {
		is(t, d.Append("f", []byte("x")), api.OK)
	}
}

// P4.1: what is no step, and what tells another error, takes nothing off.
func TestWhatIsNoStep(t *testing.T) {
	d := with(t, "f", "ab", "cd")
	d.Arm(1)
	for range 3 {
		has(t, d, "f", "abcd")
		hasNot(t, d, "g")
		named(t, d, "f")
		is(t, d.Sync("g"), api.ErrMissing)
		is(t, d.Remove("g"), api.ErrMissing)
		is(t, d.Append("", nil), api.ErrArg)
		is(t, d.Replace("f", make([]byte, api.MaxDisk+1)), api.ErrFull)
		is(t, d.Append("f", make([]byte, api.MaxDisk)), api.ErrFull)
		_, _ = d.Copy(), d.Down()
	}
	is(t, d.Append("f", nil), api.OK)
	goesDown(t, d, d.Append("f", nil))
}

// P4.1: a step takes one off though it changes nothing: a Sync of what lasts, an Append of no bytes.
func TestStepsThatChangeNothing(t *testing.T) {
	d := with(t, "f", "ab", "")
	d.Arm(3)
	is(t, d.Sync("f"), api.OK)
	is(t, d.Append("f", nil), api.OK)
	is(t, d.Replace("f", []byte("ab")), api.OK)
	goesDown(t, d, d.Sync("f"))
}

// P4.1: the Append that goes down: its bytes stand behind the file's, and don't last.
func TestAppendThatGoesDown(t *testing.T) {
	for keep, want := range []string{"ab", "abc", "abcd", "abcdX", "abcdXY", "abcdXYZ", "abcdXYZ"} {
		d := with(t, "f", "ab", "cd")
		d.Arm(0)
		goesDown(t, d, d.Append("f", []byte("XYZ")))
		is(t, d.Append("f", []byte("more")), api.ErrDown)
		d.Crash(keep)
		has(t, d, "f", want)
	}
}

// P4.1: a new file is there too, and doesn't stay.
func TestAppendOfANewFileThatGoesDown(t *testing.T) {
	for keep, want := range []string{"", "X", "XY", "XY"} {
		d := disk.New()
		d.Arm(0)
		goesDown(t, d, d.Append("f", []byte("XY")))
		named(t, d, "f")
		d.Crash(keep)
		if want == "" {
			named(t, d)
			continue
		}
		has(t, d, "f", want)
	}
	d := disk.New()
	d.Arm(0)
	goesDown(t, d, d.Append("f", nil))
	named(t, d, "f")
	d.Crash(1)
	named(t, d)
}

// P4.1: no other step is done when it goes down.
func TestOthersThatGoDown(t *testing.T) {
	for i, step := range []func(d *disk.Disk) api.Errno{
		func(d *disk.Disk) api.Errno { return d.Sync("f") },
		func(d *disk.Disk) api.Errno { return d.Replace("f", []byte("XYZ")) },
		func(d *disk.Disk) api.Errno { return d.Replace("new", []byte("XYZ")) },
		func(d *disk.Disk) api.Errno { return d.Remove("f") },
	} {
		for keep, want := range []string{"ab", "abc", "abcd", "abcd"} {
			d := with(t, "f", "ab", "cd")
			d.Arm(0)
			goesDown(t, d, step(d))
			named(t, d, "f")
			d.Crash(keep)
			named(t, d, "f")
			if b, err := d.Read("f"); err != api.OK || string(b) != want {
				t.Errorf("step %d, keep %d: %q, %d, not %q", i, keep, b, err, want)
			}
		}
	}
}

// P4.1: a crash puts out a fuse that still burns.
func TestCrashPutsOutTheFuse(t *testing.T) {
	for _, steps := range []int{0, 1, 5} {
		d := with(t, "f", "ab", "")
		d.Arm(steps)
		d.Crash()
		for range 20 {
			is(t, d.Append("f", []byte("x")), api.OK)
		}
		d.Arm(steps)
		for range steps {
			is(t, d.Sync("f"), api.OK)
		}
		goesDown(t, d, d.Sync("f"))
	}
}
