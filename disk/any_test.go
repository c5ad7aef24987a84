package disk_test

import (
	"fmt"
	"maps"
	"math/rand/v2"
	"slices"
	"strconv"
	"strings"
	"testing"

	"cicerone/api"
	"cicerone/disk"
)

// kept is a file as the document tells of it.
type kept struct {
	text  string
	lasts int
	stays bool
}

// shelf is a disk as the document tells of it: what there would be is made first, and counted as a whole.
type shelf struct {
	files map[string]kept
	fuse  []int // the number, if there is one
	down  bool
}

func (s *shelf) tooMuch(would map[string]kept) bool {
	bytes := 0
	for _, f := range would {
		bytes += len(f.text)
	}
	return bytes > 4194304 || len(would) > 4096
}

// step is what each of the five calls tells, and makes of the shelf.
func (s *shelf) step(word, name, b string) (string, api.Errno) {
	old, there := s.files[name]
	would := maps.Clone(s.files)
	switch word {
	case "append":
		would[name] = kept{old.text + b, old.lasts, old.stays}
	case "sync":
		would[name] = kept{old.text, len(old.text), true}
	case "replace":
		would[name] = kept{b, len(b), true}
	case "remove":
		delete(would, name)
	}
	writes := word == "append" || word == "replace"
	switch {
	case s.down:
		return "", api.ErrDown
	case len(name) == 0 || len(name) >= 65:
		return "", api.ErrArg
	case !there && !writes:
		return "", api.ErrMissing
	case writes && s.tooMuch(would):
		return "", api.ErrFull
	case word == "read":
		return old.text, api.OK
	case len(s.fuse) == 0:
		s.files = would
		return "", api.OK
	case s.fuse[0] > 0:
		s.fuse = []int{s.fuse[0] - 1}
		s.files = would
		return "", api.OK
	}
	s.down = true
	if word == "append" {
		s.files = would
	}
	return "", api.ErrDown
}

func (s *shelf) names() []string {
	var names []string
	for name := range s.files {
		names = append(names, name)
	}
	slices.SortFunc(names, strings.Compare)
	return names
}

func (s *shelf) crash(keep []int) {
	left := map[string]kept{}
	for _, name := range s.names() {
		more := 0
		if len(keep) > 0 {
			more = keep[0]
			keep = keep[1:]
		}
		f := s.files[name]
		front, back := f.text[:f.lasts], f.text[f.lasts:]
		if more <= 0 {
			back = ""
		} else if more < len(back) {
			back = back[:more]
		}
		if f.stays || front+back != "" {
			left[name] = kept{front + back, len(front + back), true}
		}
	}
	s.files, s.fuse, s.down = left, nil, false
}

func (s *shelf) arm(steps int) {
	s.fuse = nil
	if steps >= 0 {
		s.fuse = []int{steps}
	}
}

// both is a disk and a shelf that are told the same.
type both struct {
	t   *testing.T
	d   *disk.Disk
	s   *shelf
	met map[string]int
}

func newBoth(t *testing.T, met map[string]int) *both {
	return &both{t, disk.New(), &shelf{files: map[string]kept{}}, met}
}

func (x *both) step(word, name, b string) {
	x.t.Helper()
	text, want := x.s.step(word, name, b)
	got, err := "", api.OK
	switch word {
	case "append":
		err = x.d.Append(name, []byte(b))
	case "sync":
		err = x.d.Sync(name)
	case "replace":
		err = x.d.Replace(name, []byte(b))
	case "remove":
		err = x.d.Remove(name)
	case "read":
		var all []byte
		all, err = x.d.Read(name)
		got = string(all)
	}
	if got != text || err != want {
		x.t.Fatalf("%s %.70q, %d bytes: %.40q, %d, not %.40q, %d", word, name, len(b), got, err, text, want)
	}
	x.met[fmt.Sprint(word, want)]++
}

func (x *both) crash(keep []int) {
	x.s.crash(keep)
	x.d.Crash(keep...)
	x.met["crash"]++
}

func (x *both) arm(steps int) {
	x.s.arm(steps)
	x.d.Arm(steps)
}

// other goes on with a copy, and leaves to what was copied what it likes.
func (x *both) other() {
	c := x.d.Copy()
	x.d.Arm(0)
	x.d.Append("c", []byte("not told to the copy"))
	x.d.Crash()
	x.d = c
}

// alike holds names, whether it is down, and the bytes of those files against each other.
func (x *both) alike(names []string) {
	x.t.Helper()
	if got, want := x.d.Names(), x.s.names(); !slices.Equal(got, want) {
		x.t.Fatalf("%d names %.200q, not %d names %.200q", len(got), got, len(want), want)
	}
	if x.d.Down() != x.s.down {
		x.t.Fatal("down is", x.d.Down())
	}
	for _, name := range names {
		x.step("read", name, "")
	}
}

// any tells both one thing of any kind.
func (x *both) any(r *rand.Rand, name, b string, keep []int) {
	x.t.Helper()
	switch k := r.IntN(24); {
	case k < 8:
		x.step("append", name, b)
	case k < 12:
		x.step("sync", name, "")
	case k < 15:
		x.step("replace", name, b)
	case k < 17:
		x.step("remove", name, "")
	case k < 19:
		x.step("read", name, "")
	case k < 21:
		x.arm(r.IntN(8) - 2)
	case k < 23:
		x.crash(keep)
	default:
		x.other()
	}
}

func digits(r *rand.Rand) string {
	from := r.IntN(10)
	return "0123456789"[from:min(from+r.IntN(6), 10)]
}

// enough holds how often each answer of each call was met.
func enough(t *testing.T, met map[string]int, least int, errs ...api.Errno) {
	t.Helper()
	for _, word := range []string{"append", "sync", "replace", "remove", "read"} {
		for _, err := range errs {
			may := err != api.ErrFull && err != api.ErrMissing || (err == api.ErrFull) == slices.Contains([]string{"append", "replace"}, word)
			if n := met[fmt.Sprint(word, err)]; may && n < least {
				t.Errorf("%s told %d %d times", word, err, n)
			}
		}
	}
	if met["crash"] < least {
		t.Errorf("%d crashes", met["crash"])
	}
}

// P4.1: any calls, at any arguments, behind any calls.
func TestAnyCalls(t *testing.T) {
	r := rand.New(rand.NewPCG(1, 4))
	names := []string{"a", "b", "c", "ab", "\x00", "\xff", "", strings.Repeat("n", 64), strings.Repeat("n", 65)}
	met := map[string]int{}
	for range 4000 {
		x := newBoth(t, met)
		for range 40 {
			x.any(r, names[r.IntN(len(names))], digits(r), keeps(r))
			x.alike(nil)
		}
		x.alike(names)
		x.crash(keeps(r))
		x.alike(names)
		x.crash(nil)
		x.alike(names)
	}
	enough(t, met, 1000, api.OK, api.ErrDown, api.ErrArg, api.ErrMissing)
}

// P4.1: the same near MaxDisk bytes.
func TestAnyCallsNearAllBytes(t *testing.T) {
	r := rand.New(rand.NewPCG(2, 4))
	names := []string{"a", "b", "c"}
	bytes := strings.Repeat("a byte", api.MaxDisk)[:api.MaxDisk+1]
	met := map[string]int{}
	for range 40 {
		x := newBoth(t, met)
		for range 25 {
			free := api.MaxDisk
			for _, f := range x.s.files {
				free -= len(f.text)
			}
			name := names[r.IntN(3)]
			sizes := []int{0, 1, free - 1, free, free, free + 1, free + len(x.s.files[name].text), free + len(x.s.files[name].text) + 1}
			size := min(max(sizes[r.IntN(len(sizes))], 0), len(bytes))
			x.any(r, name, bytes[:size], []int{r.IntN(3) * 1000000, r.IntN(3) * 1000000, r.IntN(3) * 1000000})
		}
		x.alike(names)
		x.crash([]int{api.MaxDisk / 2, 1})
		x.alike(names)
	}
	enough(t, met, 5, api.OK, api.ErrDown, api.ErrFull)
}

// P4.1: the same near 4096 files.
func TestAnyCallsNearAllFiles(t *testing.T) {
	r := rand.New(rand.NewPCG(3, 4))
	met := map[string]int{}
	x := newBoth(t, met)
	for i := range 4093 {
		name := "file" + strconv.Itoa(i)
		is(t, x.d.Replace(name, nil), api.OK)
		x.s.files[name] = kept{stays: true}
	}
	names := []string{"a", "b", "c", "d", "e", "f", "g", "file7"}
	for range 700 {
		x.any(r, names[r.IntN(len(names))], digits(r), keeps(r))
		x.alike(nil)
	}
	x.alike(names)
	enough(t, met, 5, api.OK, api.ErrDown, api.ErrFull, api.ErrMissing)
}
