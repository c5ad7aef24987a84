package disk_test

import (
	"strconv"
	"strings"
	"testing"

	"cicerone/api"
	"cicerone/disk"
)

// crowded is a disk with that many files, each with a byte, without a fuse.
func crowded(t *testing.T, files int) *disk.Disk {
	t.Helper()
	d := disk.New()
	for i := range files {
		if d.Append(strconv.Itoa(i), []byte("x")) != api.OK {
			t.Fatal(i)
		}
	}
	return d
}

// P4.1: MaxDisk bytes, and one more, in one file.
func TestBytesOfOneFile(t *testing.T) {
	d := disk.New()
	is(t, d.Append("f", make([]byte, api.MaxDisk+1)), api.ErrFull)
	named(t, d)
	is(t, d.Append("f", make([]byte, api.MaxDisk)), api.OK)
	is(t, d.Append("f", []byte("x")), api.ErrFull)
	is(t, d.Append("f", nil), api.OK)
	has(t, d, "f", strings.Repeat("\x00", api.MaxDisk))

	d = with(t, "f", "ab", "cd")
	is(t, d.Append("f", make([]byte, api.MaxDisk-3)), api.ErrFull)
	has(t, d, "f", "abcd")
	is(t, d.Append("f", make([]byte, api.MaxDisk-4)), api.OK)
	is(t, d.Append("f", []byte("x")), api.ErrFull)
}

// P4.1: of all files together: another one has no room for a byte, but may be there without.
func TestBytesOfAllFiles(t *testing.T) {
	d := with(t, "f", "ab", "")
	is(t, d.Append("g", make([]byte, api.MaxDisk-1)), api.ErrFull)
	named(t, d, "f")
	is(t, d.Append("g", make([]byte, api.MaxDisk-2)), api.OK)
	for _, name := range []string{"f", "g", "h"} {
		is(t, d.Append(name, []byte("x")), api.ErrFull)
	}
	is(t, d.Replace("h", []byte("x")), api.ErrFull)
	named(t, d, "f", "g")
	is(t, d.Append("h", nil), api.OK)
	is(t, d.Replace("i", nil), api.OK)
	named(t, d, "f", "g", "h", "i")
	is(t, d.Sync("g"), api.OK)
	is(t, d.Append("h", []byte("x")), api.ErrFull)
}

// P4.1: a Replace frees what it takes the place of, and no more.
func TestBytesOfReplace(t *testing.T) {
	d := disk.New()
	is(t, d.Replace("f", make([]byte, api.MaxDisk+1)), api.ErrFull)
	is(t, d.Replace("f", make([]byte, api.MaxDisk)), api.OK)
	is(t, d.Replace("f", make([]byte, api.MaxDisk)), api.OK)
	is(t, d.Replace("f", make([]byte, api.MaxDisk+1)), api.ErrFull)
	is(t, d.Replace("f", []byte(strings.Repeat("y", api.MaxDisk-3))), api.OK)
	is(t, d.Append("g", []byte("abcd")), api.ErrFull)
	is(t, d.Append("g", []byte("abc")), api.OK)
	is(t, d.Replace("g", []byte("xyz")), api.OK)
	is(t, d.Replace("g", []byte("wxyz")), api.ErrFull)
	has(t, d, "g", "xyz")
	is(t, d.Replace("f", make([]byte, api.MaxDisk-2)), api.ErrFull)
	has(t, d, "f", strings.Repeat("y", api.MaxDisk-3))
	is(t, d.Replace("f", nil), api.OK)
	is(t, d.Replace("g", make([]byte, api.MaxDisk)), api.OK)
	is(t, d.Append("f", []byte("x")), api.ErrFull)
}

// P4.1: a Remove gives all the room of its file.
func TestBytesOfRemove(t *testing.T) {
	d := with(t, "f", "ab", "cd")
	is(t, d.Append("g", make([]byte, api.MaxDisk-4)), api.OK)
	is(t, d.Remove("f"), api.OK)
	is(t, d.Append("g", []byte("abcde")), api.ErrFull)
	is(t, d.Append("g", []byte("abcd")), api.OK)
	is(t, d.Append("f", []byte("x")), api.ErrFull)
	is(t, d.Remove("g"), api.OK)
	is(t, d.Append("f", make([]byte, api.MaxDisk)), api.OK)
}

// P4.1: what an Append left that went down takes room as well.
func TestBytesOfAnAppendThatWentDown(t *testing.T) {
	d := with(t, "f", "ab", "")
	d.Arm(0)
	is(t, d.Append("f", []byte("cd")), api.ErrDown)
	d.Crash(2)
	is(t, d.Append("f", make([]byte, api.MaxDisk-3)), api.ErrFull)
	is(t, d.Append("f", make([]byte, api.MaxDisk-4)), api.OK)
}

// P4.1: 4096 files, and one more.
func TestFiles(t *testing.T) {
	d := crowded(t, 4095)
	c := d.Copy()
	is(t, d.Append("last", nil), api.OK)
	is(t, c.Replace("last", nil), api.OK)
	for _, d := range []*disk.Disk{d, c} {
		is(t, d.Append("more", nil), api.ErrFull)
		is(t, d.Append("more", []byte("x")), api.ErrFull)
		is(t, d.Replace("more", nil), api.ErrFull)
		is(t, d.Replace("more", []byte("x")), api.ErrFull)
		hasNot(t, d, "more")
		if n := len(d.Names()); n != 4096 {
			t.Error(n)
		}
		// those that are there go on
		is(t, d.Append("7", []byte("y")), api.OK)
		has(t, d, "7", "xy")
		is(t, d.Replace("8", []byte("wxyz")), api.OK)
		has(t, d, "8", "wxyz")
		is(t, d.Sync("9"), api.OK)
		// and give their place
		is(t, d.Remove("10"), api.OK)
		is(t, d.Append("more", []byte("x")), api.OK)
		is(t, d.Append("10", []byte("x")), api.ErrFull)
		d.Crash()
		if n := len(d.Names()); n > 3 || n < 2 {
			t.Error(d.Names())
		}
		is(t, d.Append("10", []byte("x")), api.OK)
	}
}

// P4.1: a Replace of a file that is there, on a disk that has all files and all bytes.
func TestReplaceOnAFullDisk(t *testing.T) {
	d := crowded(t, 4096)
	is(t, d.Append("0", make([]byte, api.MaxDisk-4095)), api.ErrFull)
	is(t, d.Append("0", make([]byte, api.MaxDisk-4096)), api.OK)
	is(t, d.Append("1", []byte("y")), api.ErrFull)
	is(t, d.Replace("1", []byte("yz")), api.ErrFull)
	has(t, d, "1", "x")
	is(t, d.Replace("1", []byte("y")), api.OK)
	has(t, d, "1", "y")
	is(t, d.Replace("1", nil), api.OK)
	is(t, d.Append("2", []byte("y")), api.OK)
	is(t, d.Append("2", []byte("z")), api.ErrFull)
	is(t, d.Append("new", nil), api.ErrFull)
}

// P4.1: each of 4096 files has its number of a crash.
func TestCrashOfAllFiles(t *testing.T) {
	d := crowded(t, 4096)
	keep := make([]int, 4096)
	names := d.Names()
	var left []string
	for i := range keep {
		if i%3 == 1 {
			keep[i] = 1
			left = append(left, names[i])
		}
	}
	d.Crash(keep...)
	named(t, d, left...)
}
