package journal_test

import (
	"math"
	"strconv"
	"strings"
	"testing"

	"cicerone/api"
	"cicerone/disk"
	"cicerone/event"
	"cicerone/journal"
)

// diskWith is a disk with these names and bytes, by turns, all of which last.
func diskWith(t *testing.T, files ...string) *disk.Disk {
	t.Helper()
	d := disk.New()
	for i := 0; i < len(files); i += 2 {
		is(t, d.Replace(files[i], []byte(files[i+1])), api.OK)
	}
	return d
}

// refused holds an Open against an error, and against leaving the disk as it is.
func refused(t *testing.T, d *disk.Disk, name string, per int, want api.Errno) {
	t.Helper()
	was := d.Copy()
	if l, err := journal.Open(d, name, per); l != nil || err != want {
		t.Errorf("Open(%.30q, %d) told %d, not %d", name, per, err, want)
	}
	alike(t, d, was)
}

func goDown(t *testing.T, d *disk.Disk) {
	t.Helper()
	d.Arm(0)
	is(t, d.Replace("f", nil), api.ErrDown)
}

// P5.1: an empty journal: nothing is done on the disk.
func TestOpenOfNothing(t *testing.T) {
	for _, per := range []int{1, 2, 4095, 4096} {
		d := disk.New()
		d.Arm(0)
		holds(t, mustOpen(t, d, "j", per), 0)
		if d.Down() || len(d.Names()) != 0 {
			t.Error("something was done", d.Names())
		}
	}
	d := disk.New()
	is(t, d.Append("f", []byte("xyz")), api.OK)
	was := d.Copy()
	holds(t, mustOpen(t, d, "j", 1), 0)
	alike(t, d, was)
}

// P5.1: ErrArg of no name, and of a per that can't be.
func TestOpenOfWrongArguments(t *testing.T) {
	for _, name := range []string{"", "J", "j.", "j.0", ".", "a b", "\u00e9", "j\x00", "j_", strings.Repeat("j", 25), strings.Repeat("j", 1000)} {
		refused(t, disk.New(), name, 1, api.ErrArg)
	}
	for _, per := range []int{0, -1, math.MinInt, 4097, 8192, math.MaxInt} {
		refused(t, disk.New(), "j", per, api.ErrArg)
	}
	for _, name := range []string{"j", "-", "0", "z9-", strings.Repeat("j", 24)} {
		mustOpen(t, disk.New(), name, 1)
	}
	for _, per := range []int{1, 2, 4095, 4096} {
		mustOpen(t, disk.New(), "j", per)
	}
}

// P5.1: the entries of the files, erased ones among them.
func TestOpenOfFiles(t *testing.T) {
	for _, c := range []struct {
		per     int
		entries []int
		files   []string
	}{
		{1, []int{1}, []string{written(1)}},
		{1, []int{0}, []string{written(0)}},
		{1, []int{1, 0, 3}, []string{written(1), written(0), written(3)}},
		{2, []int{1}, []string{written(1)}},
		{2, []int{1, 2}, []string{written(1, 2)}},
		{2, []int{1, 2, 3}, []string{written(1, 2), written(3)}},
		{2, []int{0, 0, 3, 0, 5}, []string{written(0, 0), written(3, 0), written(5)}},
		{3, []int{4, 4, 4, 2}, []string{written(4, 4, 4), written(2)}},
		{4096, []int{7, 6, 0, 5, 4}, []string{written(7, 6, 0, 5, 4)}},
	} {
		d := disk.New()
		for k, b := range c.files {
			is(t, d.Replace("j."+strconv.Itoa(k), []byte(b)), api.OK)
		}
		was := d.Copy()
		holds(t, mustOpen(t, d, "j", c.per), len(c.entries), c.entries...)
		alike(t, d, was)
	}
}

// P5.1: more than ten files are there one behind the other by their numbers, not by the order of their names.
func TestOpenOfManyFiles(t *testing.T) {
	d := disk.New()
	var all []int
	for k := range 211 {
		is(t, d.Replace("j."+strconv.Itoa(k), []byte(written(2*k+1, 2*k+2))), api.OK)
		all = append(all, 2*k+1, 2*k+2)
	}
	l := mustOpen(t, d, "j", 2)
	holds(t, l, 422, all...)
	mustAppend(t, l, 423)
	if b, err := d.Read("j.211"); err != api.OK || string(b) != written(423) {
		t.Error(b, err)
	}
}

// P5.1: ErrDown of a disk that is down, also of one without files.
func TestOpenOfADiskThatIsDown(t *testing.T) {
	d := disk.New()
	goDown(t, d)
	refused(t, d, "j", 1, api.ErrDown)
	d.Crash()
	mustOpen(t, d, "j", 1)
	d = diskWith(t, "j.0", written(1))
	goDown(t, d)
	refused(t, d, "j", 1, api.ErrDown)
	d.Crash()
	holds(t, mustOpen(t, d, "j", 1), 1, 1)
}

// P5.1: ErrGap, if a segment's file is there, and one ahead of it isn't.
func TestOpenOfAGap(t *testing.T) {
	full, part := written(1, 2), written(3)
	for _, files := range [][]string{
		{"j.1", part},
		{"j.0", full, "j.2", part},
		{"j.1", full, "j.2", part},
		{"j.0", full, "j.1", full, "j.3", part},
		{"j.0", full, "j.10", part},
		{"j.0", full, "j.1", full, "j.11", ""},
		{"j.4096", ""},
		{"j.1048577", ""},
		{"j.9223372036854775807", part},
		{"j.9223372036854775808", part},
		{"j.18446744073709551615", part},
		{"j.0", full, "j.18446744073709551616", part},
		{"j.0", full, "j.18446744073709551617", part},
		{"j." + strings.Repeat("7", 62), part},
	} {
		refused(t, diskWith(t, files...), "j", 2, api.ErrGap)
	}
}

// P5.1: files whose names are no segment's are nobody's.
func TestOpenBesideOtherFiles(t *testing.T) {
	for _, name := range []string{
		"j.", "j.00", "j.01", "j.02", "j.-1", "j.+1", "j.1 ", "j. 1", "j.1.", "j.1.0", "j.0.1", "j.1x", "j.x1", "j.0x2", "j.1_0", "j.1e3", "j.\u0661", "j.2/", "j.2:", "j./2", "j.:",
		"j", "j1", "j-1", "jj.1", "i.1", "k.1", "J.1", ".1", " j.1", "1", "aj.1", "j,1", "j\x00.1",
	} {
		d := diskWith(t, name, "what nobody asks for", "j.0", written(1, 2), "j.1", written(3))
		was := d.Copy()
		holds(t, mustOpen(t, d, "j", 2), 3, 1, 2, 3)
		alike(t, d, was)
	}
}

// bads are files that are ErrBad wherever they stand, of 2 places a segment.
func bads() map[string]string {
	e := encoded(of(1))
	other := []byte(written(1))
	other[len(other)-1]++
	mayNot := "\x0f" + e[1:]
	return map[string]string{
		"a frame's fourth byte":                    "\x00\x00\x00\xfe",
		"a sum":                                    string(other),
		"a sum behind a whole frame":               written(1) + string(other),
		"a sum ahead of a whole frame":             string(other) + written(2),
		"a length":                                 "\x01\x00\x01\xfe\xff\xfe",
		"bytes behind all frames":                  written(1, 2) + "x123",
		"no event's bytes":                         sealed("x"),
		"no event's bytes behind an entry":         written(1) + sealed("x"),
		"no event's bytes ahead of an entry":       sealed("x") + written(1),
		"an event's bytes, and one more":           sealed(e + "\x00"),
		"two events' bytes":                        sealed(e + e),
		"an event's bytes, without the last one":   sealed(e[:len(e)-1]),
		"one nought":                               sealed("\x00"),
		"an event that may not be":                 sealed(mayNot),
		"an event that may not be, behind another": written(2) + sealed(mayNot),
		"three entries":                            written(1, 2, 3),
		"three erased ones":                        written(0, 0, 0),
		"four entries":                             written(1, 0, 3, 4),
		"three entries, and a torn one":            written(1, 2, 3) + "\x00",
		"no event's bytes, and a torn one":         sealed("x") + "\x00",
	}
}

// P5.1: ErrBad of any file.
func TestOpenOfBadFiles(t *testing.T) {
	full := written(8, 9)
	for what, b := range bads() {
		for _, d := range []*disk.Disk{
			diskWith(t, "j.0", b),
			diskWith(t, "j.0", b, "j.1", full),
			diskWith(t, "j.0", b, "j.1", ""),
			diskWith(t, "j.0", full, "j.1", b),
			diskWith(t, "j.0", full, "j.1", b, "j.2", written(1)),
			diskWith(t, "j.0", full, "j.1", b, "j.2", written(1)+"\x00"),
			diskWith(t, "j.0", full, "j.1", full, "j.2", b),
			diskWith(t, "j.0", b, "j.1", b),
		} {
			refused(t, d, "j", 2, api.ErrBad)
			if t.Failed() {
				t.Fatal(what)
			}
		}
	}
}

// P5.1: ErrBad of a file that isn't the last one, of what the last one may be.
func TestOpenOfFilesAheadOfTheLastOne(t *testing.T) {
	full := written(8, 9)
	torn := written(7)
	for what, b := range map[string]string{
		"no bytes":                       "",
		"an entry":                       written(1),
		"an erased one":                  written(0),
		"torn":                           torn[:5],
		"torn behind an entry":           written(1) + torn[:len(torn)-1],
		"torn behind as many as may be":  written(1, 2) + torn[:len(torn)-1],
		"a byte behind as many":          written(1, 2) + "\x00",
		"torn behind as many erased":     written(0, 0) + "\x00",
		"a beginning of an erased entry": written(1) + "\x00\x00\x00\xff\xff\xff\x06\x00\x02",
	} {
		for _, d := range []*disk.Disk{
			diskWith(t, "j.0", b, "j.1", full),
			diskWith(t, "j.0", b, "j.1", ""),
			diskWith(t, "j.0", full, "j.1", b, "j.2", written(1)),
			diskWith(t, "j.0", full, "j.1", b, "j.2", written(1)+"\x00"),
			diskWith(t, "j.0", b, "j.1", full, "j.2", full),
		} {
			refused(t, d, "j", 2, api.ErrBad)
			if t.Failed() {
				t.Fatal(what)
			}
		}
		if d := diskWith(t, "j.0", full, "j.1", b); mustOpen(t, d, "j", 2).Len() < 2 {
			t.Error(what)
		}
	}
}

// P5.1: a last file that is cut anywhere is left with its whole frames alone, and these last.
func TestOpenOfATornFile(t *testing.T) {
	for _, ahead := range [][]int{nil, {11, 0, 13}} {
		entries := []int{1, 0, 2}
		b := written(entries...)
		for cut := range len(b) {
			whole := 0
			for whole < 3 && len(written(entries[:whole+1]...)) <= cut {
				whole++
			}
			d := disk.New()
			name := "j.0"
			if ahead != nil {
				is(t, d.Replace(name, []byte(written(ahead...))), api.OK)
				name = "j.1"
			}
			is(t, d.Append(name, []byte(b[:cut])), api.OK)
			want := d.Copy()
			is(t, want.Replace(name, []byte(written(entries[:whole]...))), api.OK)
			all := append(append([]int{}, ahead...), entries[:whole]...)
			l := mustOpen(t, d, "j", 3)
			holds(t, l, len(all), all...)
			alike(t, d, want)
			d.Crash()
			holds(t, mustOpen(t, d, "j", 3), len(all), all...)
			if t.Failed() {
				t.Fatal("cut at", cut)
			}
		}
	}
}

// P5.1: a last file with as many entries as may be, and torn bytes behind.
func TestOpenOfATornFileThatIsFull(t *testing.T) {
	d := diskWith(t, "j.0", written(1, 2)+"\x00\x00")
	l := mustOpen(t, d, "j", 2)
	holds(t, l, 2, 1, 2)
	lies(t, d, "j.0", written(1, 2))
	mustAppend(t, l, 3)
	holds(t, l, 2, 1, 2, 3)
	lies(t, d, "j.0", written(1, 2), "j.1", written(3))
}

// P5.1, P5.2: a last file without entries: the next one stands in it.
func TestOpenOfALastFileWithoutEntries(t *testing.T) {
	for _, b := range []string{"", "\x00", written(3)[:9]} {
		d := diskWith(t, "j.0", written(1, 2), "j.1", b)
		l := mustOpen(t, d, "j", 2)
		holds(t, l, 2, 1, 2)
		lies(t, d, "j.0", written(1, 2), "j.1", "")
		l = mustOpen(t, d, "j", 2)
		is(t, l.Sync(), api.OK)
		n, err := l.Rewrite(func(e event.Event) bool { return e.Number == 1 })
		told(t, n, err, 1, api.OK)
		holds(t, l, 2, 1, 0)
		mustAppend(t, l, 3, 4, 5)
		holds(t, l, 4, 1, 0, 3, 4, 5)
		lies(t, d, "j.0", written(1, 0), "j.1", written(3, 4), "j.2", written(5))

		d = diskWith(t, "j.0", b)
		l = mustOpen(t, d, "j", 2)
		holds(t, l, 0)
		lies(t, d, "j.0", "")
		mustAppend(t, l, 1)
		holds(t, l, 0, 1)
		lies(t, d, "j.0", written(1))
	}
}

// opening is the call of Open in theSteps.
func opening(t *testing.T, per int, entries ...int) func(*disk.Disk, *journal.Log, int) api.Errno {
	return func(d *disk.Disk, _ *journal.Log, _ int) api.Errno {
		l, err := journal.Open(d, "j", per)
		if (l != nil) != (err == api.OK) {
			t.Error("a journal beside an error, or none", err)
		}
		if l != nil {
			holds(t, l, len(entries), entries...)
		}
		return err
	}
}

// P5.1: what Open does on the disk, with each fuse: one step at most, about the last file.
func TestStepsOfOpen(t *testing.T) {
	on := func(files ...string) func() (*disk.Disk, *journal.Log) {
		return func() (*disk.Disk, *journal.Log) {
			// of the last file what is told last doesn't last yet
			n := len(files) - 1
			d := diskWith(t, files[:n]...)
			is(t, d.Append(files[n-2], []byte(files[n])), api.OK)
			return d, nil
		}
	}
	full, torn := written(1, 2), written(3)[:20]
	theSteps(t, on("j.0", "", full), opening(t, 2, 1, 2), step{"sync", "j.0", ""})
	theSteps(t, on("j.0", "", written(1)), opening(t, 2, 1), step{"sync", "j.0", ""})
	theSteps(t, on("j.0", "", ""), opening(t, 2), step{"sync", "j.0", ""})
	theSteps(t, on("j.0", "", torn), opening(t, 2), step{"replace", "j.0", ""})
	theSteps(t, on("j.0", "", full+torn), opening(t, 2, 1, 2), step{"replace", "j.0", full})
	theSteps(t, on("j.0", full, "j.1", "", full), opening(t, 2, 1, 2, 1, 2), step{"sync", "j.1", ""})
	theSteps(t, on("j.0", full, "j.1", "", ""), opening(t, 2, 1, 2), step{"sync", "j.1", ""})
	theSteps(t, on("j.0", full, "j.1", "", written(0)+torn), opening(t, 2, 1, 2, 0), step{"replace", "j.1", written(0)})
	theSteps(t, on("j.0", full, "j.1", "", "\x00"), opening(t, 2, 1, 2), step{"replace", "j.1", ""})
	theSteps(t, on("i.0", full, "\x00"), opening(t, 2))

	// a file that came by an Append alone, and was never synced
	theSteps(t, func() (*disk.Disk, *journal.Log) {
		d := disk.New()
		is(t, d.Append("j.0", []byte(full)), api.OK)
		return d, nil
	}, opening(t, 2, 1, 2), step{"sync", "j.0", ""})
}

// P5.1: two errors at once: the one that the chapter names first.
func TestOrderOfErrorsOfOpen(t *testing.T) {
	// all of them
	all := func() *disk.Disk {
		d := diskWith(t, "j.0", "bad!", "j.2", "bad!")
		goDown(t, d)
		return d
	}
	refused(t, all(), "J", 2, api.ErrArg)
	refused(t, all(), "j", 0, api.ErrArg)
	refused(t, all(), "j", 2, api.ErrDown)
	d := all()
	d.Crash()
	refused(t, d, "", 4097, api.ErrArg)
	refused(t, d, "j", 2, api.ErrGap)
	is(t, d.Replace("j.1", []byte("bad!")), api.OK)
	refused(t, d, "j", 2, api.ErrBad)

	// the fuse is the last one, and it isn't touched by what is told ahead of it
	for _, c := range []struct {
		err   api.Errno
		files []string
	}{
		{api.ErrGap, []string{"j.0", written(1), "j.2", written(1)}},
		{api.ErrGap, []string{"j.1", "\x00"}},
		{api.ErrBad, []string{"j.0", written(1) + "bad!"}},
		{api.ErrBad, []string{"j.0", written(1), "j.1", sealed("x") + "\x00"}},
		{api.ErrBad, []string{"j.0", "", "j.1", written(1) + "\x00"}},
		{api.ErrDown, []string{"j.0", written(1)}},
		{api.ErrDown, []string{"j.0", written(1), "j.1", "\x00"}},
	} {
		d := diskWith(t, c.files...)
		d.Arm(0)
		if l, err := journal.Open(d, "j", 1); l != nil || err != c.err {
			t.Errorf("%q: told %d, not %d", c.files, err, c.err)
		}
		if d.Down() != (c.err == api.ErrDown) {
			t.Errorf("%q: down is %v", c.files, d.Down())
		}
		d.Arm(0)
		refused(t, d, "J", 1, api.ErrArg)
	}
}
