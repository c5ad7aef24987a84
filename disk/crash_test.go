package disk_test

import (
	"math/rand/v2"
	"strings"
	"testing"

	"cicerone/api"
	"cicerone/disk"
)

// P4.1: of each number that a crash may be told, of a file of four bytes of which two last.
func TestCrashKeeps(t *testing.T) {
	for keep, want := range map[int]string{-1 << 62: "ab", -2: "ab", -1: "ab", 0: "ab", 1: "abc", 2: "abcd", 3: "abcd", 4: "abcd", 1 << 62: "abcd"} {
		d := with(t, "f", "ab", "cd")
		d.Crash(keep)
		has(t, d, "f", want)
		// what came through lasts from then on
		d.Crash()
		has(t, d, "f", want)
		is(t, d.Append("f", []byte("xyz")), api.OK)
		d.Crash(2)
		has(t, d, "f", want+"xy")
	}
}

// P4.1: of a file that doesn't stay.
func TestCrashOfWhatDoesNotStay(t *testing.T) {
	for keep, want := range map[int]string{-9: "", 0: "", 1: "a", 2: "ab", 3: "ab"} {
		d := disk.New()
		is(t, d.Append("f", []byte("ab")), api.OK)
		d.Crash(keep)
		if want == "" {
			named(t, d)
			hasNot(t, d, "f")
			continue
		}
		has(t, d, "f", want)
		d.Crash()
		has(t, d, "f", want)
	}
	// one without bytes has none to be left
	d := disk.New()
	is(t, d.Append("f", nil), api.OK)
	d.Crash(5)
	named(t, d)
}

// P4.1: a file that stays is there without bytes too: by a Sync, by a Replace.
func TestCrashOfWhatStays(t *testing.T) {
	d := disk.New()
	is(t, d.Append("synced", nil), api.OK)
	is(t, d.Sync("synced"), api.OK)
	is(t, d.Replace("replaced", nil), api.OK)
	is(t, d.Append("appended", nil), api.OK)
	is(t, d.Append("synced", []byte("x")), api.OK)
	is(t, d.Append("replaced", []byte("y")), api.OK)
	d.Crash()
	named(t, d, "replaced", "synced")
	has(t, d, "replaced", "")
	has(t, d, "synced", "")
	d.Crash()
	named(t, d, "replaced", "synced")
}

// P4.1: a Sync or a Replace that told an error makes nothing stay.
func TestCrashOfWhatWasNotSynced(t *testing.T) {
	d := disk.New()
	is(t, d.Append("f", nil), api.OK)
	is(t, d.Append("g", []byte("g")), api.OK)
	d.Arm(0)
	is(t, d.Sync("f"), api.ErrDown)
	is(t, d.Sync("g"), api.ErrDown)
	d.Crash()
	named(t, d)

	is(t, d.Append("f", nil), api.OK)
	is(t, d.Replace("f", make([]byte, api.MaxDisk+1)), api.ErrFull)
	d.Crash()
	named(t, d)

	is(t, d.Append("f", nil), api.OK)
	d.Arm(0)
	is(t, d.Replace("f", nil), api.ErrDown)
	d.Crash()
	named(t, d)
}

// P4.1: keep's numbers go by the order of Names, also past files of which all lasts, and of which nothing is left.
func TestCrashInTheOrderOfNames(t *testing.T) {
	d := disk.New()
	is(t, d.Append("e", []byte("eee")), api.OK)
	add(t, d, "c", "cc", "")
	is(t, d.Append("b", []byte("bbb")), api.OK)
	add(t, d, "d", "d", "ddd")
	is(t, d.Append("a", []byte("aaa")), api.OK)
	is(t, d.Append("aa", nil), api.OK)
	c := d.Copy()
	d.Crash(1, 2, 0, 3, -1, 9)
	named(t, d, "a", "c", "d", "e")
	has(t, d, "a", "a")
	has(t, d, "c", "cc")
	has(t, d, "d", "d")
	has(t, d, "e", "eee")

	// too few: nothing of those behind the end
	few := c.Copy()
	few.Crash(3, 3, 2)
	named(t, few, "a", "b", "c", "d")
	has(t, few, "a", "aaa")
	has(t, few, "b", "bb")
	has(t, few, "c", "cc")
	has(t, few, "d", "d")

	// too many: as if they weren't there
	c.Crash(0, 0, 1, 0, 2, 1, 9, 9, 9)
	named(t, c, "b", "c", "d", "e")
	has(t, c, "b", "b")
	has(t, c, "d", "ddd")
	has(t, c, "e", "e")
}

// P4.1: none at all, on a disk without files.
func TestCrashOfNothing(t *testing.T) {
	d := disk.New()
	d.Crash()
	d.Crash(1, 2, 3)
	d.Crash([]int{}...)
	d.Crash(nil...)
	named(t, d)
	is(t, d.Append("f", []byte("x")), api.OK)
	has(t, d, "f", "x")
}

// P4.1: twice, one behind the other, and the order of Names is that of the second one's files.
func TestCrashTwice(t *testing.T) {
	d := disk.New()
	is(t, d.Append("a", []byte("aaa")), api.OK)
	is(t, d.Append("b", []byte("bbb")), api.OK)
	d.Crash(0, 2)
	named(t, d, "b")
	is(t, d.Append("b", []byte("xyz")), api.OK)
	is(t, d.Append("c", []byte("ccc")), api.OK)
	d.Crash(1, 2)
	has(t, d, "b", "bbx")
	has(t, d, "c", "cc")
	is(t, d.Remove("b"), api.OK)
	d.Crash(2)
	named(t, d, "c")
	has(t, d, "c", "cc")
}

// P4.1: what a crash took away takes no room any more.
func TestCrashGivesRoom(t *testing.T) {
	d := with(t, "f", "ab", strings.Repeat("x", api.MaxDisk-2))
	is(t, d.Append("f", []byte("y")), api.ErrFull)
	d.Crash(3)
	is(t, d.Append("f", make([]byte, api.MaxDisk-4)), api.ErrFull)
	is(t, d.Append("f", make([]byte, api.MaxDisk-5)), api.OK)
	is(t, d.Append("f", []byte("y")), api.ErrFull)
	d.Crash()
	is(t, d.Append("g", make([]byte, api.MaxDisk-5)), api.OK)
	is(t, d.Append("h", []byte("y")), api.ErrFull)
	d.Crash()
	named(t, d, "f")
	is(t, d.Append("h", make([]byte, api.MaxDisk-4)), api.ErrFull)
	is(t, d.Append("h", make([]byte, api.MaxDisk-5)), api.OK)
}

// keeps is a crash's numbers, too few, too many, below 0 and above what there is.
func keeps(r *rand.Rand) []int {
	keep := make([]int, r.IntN(7))
	for i := range keep {
		keep[i] = r.IntN(12) - 3
	}
	return keep
}

// P4.2: what lasts, by what was told OK, is there behind any crash, and each file is a beginning of what it was.
func TestWhatLasts(t *testing.T) {
	r := rand.New(rand.NewPCG(41, 42))
	crashes, cut, grown := 0, 0, 0
	for range 3000 {
		d := disk.New()
		lasts := map[string]string{}
		for range 25 {
			name := string(rune('a' + r.IntN(4)))
			b := []byte(digits(r))
			switch r.IntN(8) {
			case 0, 1, 2:
				d.Append(name, b)
			case 3, 4:
				if d.Sync(name) == api.OK {
					all, _ := d.Read(name)
					lasts[name] = string(all)
				}
			case 5:
				if d.Replace(name, b) == api.OK {
					lasts[name] = string(b)
				}
			case 6:
				if d.Remove(name) == api.OK {
					delete(lasts, name)
				}
			case 7:
				d.Arm(r.IntN(6) - 1)
			}
			if r.IntN(4) > 0 {
				continue
			}
			crashes++
			was := everything(d)
			d.Crash(keeps(r)...)
			now := everything(d)
			for name, front := range lasts {
				if text, ok := now[name]; !ok || !strings.HasPrefix(text, front) {
					t.Fatalf("%q lasted in %q, which has %q, %v", front, name, text, ok)
				}
			}
			for name, text := range now {
				old, ok := was[name]
				if !ok || !strings.HasPrefix(old, text) {
					t.Fatalf("%q has %q behind a crash, and had %q, %v", name, text, old, ok)
				}
				if len(text) < len(old) {
					cut++
				}
				if len(text) > len(lasts[name]) {
					grown++
				}
				// it came through: all of it lasts
				lasts[name] = text
			}
		}
	}
	if crashes < 5000 || cut < 1000 || grown < 1000 {
		t.Error(crashes, cut, grown)
	}
}

// everything is all files' bytes, of a disk that is down too: a copy comes through a crash with all of them.
func everything(d *disk.Disk) map[string]string {
	names := d.Names()
	c := d.Copy()
	if c.Down() {
		all := make([]int, len(names))
		for i := range all {
			all[i] = api.MaxDisk
		}
		c.Crash(all...)
	}
	texts := map[string]string{}
	for _, name := range names {
		b, _ := c.Read(name)
		texts[name] = string(b)
	}
	return texts
}

// P4.3: whatever the file was, whatever comes instead of it, and whatever is left by the crash.
func TestReplaceIsWholeOrNotAtAll(t *testing.T) {
	news := []string{"", "x", "abcd", "abcdX", "Xbcd", "ab", strings.Repeat("new ", 100)}
	for _, old := range []struct {
		front, back string
		there       bool
	}{{"", "", false}, {"", "", true}, {"", "cd", true}, {"ab", "", true}, {"ab", "cd", true}} {
		for _, b := range news {
			for keep := -1; keep < 5; keep++ {
				for fuse := -1; fuse < 3; fuse++ {
					d := disk.New()
					if old.there {
						add(t, d, "f", old.front, old.back)
					}
					d.Arm(fuse)
					err := d.Replace("f", []byte(b))
					if fuse != 0 {
						is(t, err, api.OK)
						has(t, d, "f", b)
						d.Crash(keep)
						has(t, d, "f", b)
						continue
					}
					is(t, err, api.ErrDown)
					d.Crash(keep)
					if !old.there {
						named(t, d)
						continue
					}
					has(t, d, "f", old.front+old.back[:min(max(keep, 0), len(old.back))])
				}
			}
		}
	}
}

// P4.3: of one that would not fit nothing is done.
func TestReplaceThatDoesNotFit(t *testing.T) {
	d := with(t, "f", "ab", "cd")
	add(t, d, "g", "g", "")
	is(t, d.Replace("f", make([]byte, api.MaxDisk)), api.ErrFull)
	has(t, d, "f", "abcd")
	d.Crash(1)
	has(t, d, "f", "abc")
	is(t, d.Replace("h", make([]byte, api.MaxDisk)), api.ErrFull)
	named(t, d, "f", "g")
}
