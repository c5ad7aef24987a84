package journal_test

import (
	"fmt"
	"math"
	"math/rand/v2"
	"slices"
	"strconv"
	"strings"
	"testing"

	"cicerone/api"
	"cicerone/disk"
	"cicerone/event"
	"cicerone/journal"
)

// book is a journal as the document tells of it: it has a disk of its own, and finds out from what lies there, and what of it would last, how much there is.
type book struct {
	d       *disk.Disk
	per     int
	entries []int
	stuck   api.Errno
}

func (b *book) file(k int) string {
	return "j." + strconv.Itoa(k)
}

// last is the number of the last file, or -1.
func (b *book) last() int {
	k := -1
	for slices.Contains(b.d.Names(), b.file(k+1)) {
		k++
	}
	return k
}

// there is the payloads that can be read of a disk's files, one behind the other, cut to the frames by their lengths alone.
func (b *book) there(d *disk.Disk) []string {
	var all []string
	for k := 0; ; k++ {
		rest, err := d.Read(b.file(k))
		if err != api.OK {
			return all
		}
		for len(rest) >= 10 {
			n := int(rest[0])<<16 + int(rest[1])<<8 + int(rest[2])
			if len(rest) < n+10 {
				break
			}
			all = append(all, string(rest[6:n+6]))
			rest = rest[n+10:]
		}
	}
}

// lasting is how many entries there are behind a crash that leaves nothing of what doesn't last.
func (b *book) lasting() int {
	c := b.d.Copy()
	c.Crash()
	return len(b.there(c))
}

// do tells the disk a step, of a book that isn't stuck.
func (b *book) do(s step) bool {
	b.stuck = do(b.d, s)
	return b.stuck == api.OK
}

func (b *book) append(more []int, wrong bool) (int, api.Errno) {
	if b.stuck != api.OK {
		return 0, b.stuck
	}
	if wrong {
		return 0, api.ErrArg
	}
	at := len(b.entries)
	for _, n := range more {
		k := len(b.entries) / b.per
		if len(b.entries)%b.per == 0 && b.last() >= 0 && !b.do(step{"sync", b.file(b.last()), ""}) {
			return at, b.stuck
		}
		if !b.do(step{"append", b.file(k), written(n)}) {
			return at, b.stuck
		}
		b.entries = append(b.entries, n)
	}
	return at, api.OK
}

func (b *book) sync() api.Errno {
	if b.stuck == api.OK && b.last() >= 0 {
		b.do(step{"sync", b.file(b.last()), ""})
	}
	return b.stuck
}

func (b *book) rewrite(gone []int) (int, []int, api.Errno) {
	count := 0
	var asked []int
	if b.stuck != api.OK {
		return 0, nil, b.stuck
	}
	for from := 0; from < len(b.entries); from += b.per {
		to := min(from+b.per, len(b.entries))
		var left []int
		more := 0
		for _, n := range b.entries[from:to] {
			if n > 0 {
				asked = append(asked, n)
			}
			if slices.Contains(gone, n) {
				n = 0
				more++
			}
			left = append(left, n)
		}
		if more > 0 && !b.do(step{"replace", b.file(from / b.per), written(left...)}) {
			return count, asked, b.stuck
		}
		b.entries = slices.Concat(b.entries[:from], left, b.entries[to:])
		count += more
	}
	return count, asked, api.OK
}

// open is what Open makes of a book: it tells whether there is a journal.
func (b *book) open() api.Errno {
	if b.d.Down() {
		return api.ErrDown
	}
	k := b.last()
	var err api.Errno
	if k >= 0 {
		all, _ := b.d.Read(b.file(k))
		whole := written(b.entries[k*b.per:]...)
		if string(all) == whole {
			err = b.d.Sync(b.file(k))
		} else {
			err = b.d.Replace(b.file(k), []byte(whole))
		}
	}
	b.stuck = api.OK
	return err
}

// crash leaves of the entries, and those of an Append that told an error, as many as are whole on the disk.
func (b *book) crash(pending []int, keep []int) (int, int) {
	all := append(slices.Clone(b.entries), pending...)
	least := b.lasting()
	b.d.Crash(keep...)
	b.entries = all[:len(b.there(b.d))]
	return least, len(all)
}

// pair is a journal and a book that are told the same.
type pair struct {
	t       *testing.T
	r       *rand.Rand
	d       *disk.Disk
	l       *journal.Log
	b       *book
	next    int
	pending []int
	erased  []int
	met     map[string]int
}

func (p *pair) meet(what string, err api.Errno) {
	p.met[fmt.Sprint(what, err)]++
}

func (p *pair) append() {
	var more []int
	var e []event.Event
	for range p.r.IntN(5) {
		p.next++
		more, e = append(more, p.next), append(e, of(p.next))
	}
	wrong := p.r.IntN(10) == 0
	if wrong {
		e = slices.Insert(e, p.r.IntN(len(e)+1), event.Event{Source: "s"})
	}
	was := len(p.b.entries)
	n, err := p.b.append(more, wrong)
	got, gotErr := p.l.Append(e...)
	told(p.t, got, gotErr, n, err)
	if stood := len(p.b.entries) - was; err == api.ErrDown && p.pending == nil {
		p.pending = more[min(stood, len(more)):]
	}
	p.meet("append", err)
}

func (p *pair) rewrite() {
	var gone []int
	for _, n := range p.b.entries {
		if n > 0 && p.r.IntN(6) == 0 {
			gone = append(gone, n)
		}
	}
	count, asked, err := p.b.rewrite(gone)
	n, gotAsked, gotErr := rewrite(p.l, gone...)
	told(p.t, n, gotErr, count, err)
	if !slices.Equal(asked, gotAsked) {
		p.t.Errorf("asked for %v, not %v", gotAsked, asked)
	}
	if err == api.OK {
		p.erased = append(p.erased, gone...)
	}
	p.meet("rewrite", err)
}

func (p *pair) read() {
	from, n := p.r.IntN(len(p.b.entries)+3)-1, p.r.IntN(len(p.b.entries)+3)-1
	var want []event.Event
	var at []int
	err := api.ErrRange
	if from >= 0 && from <= len(p.b.entries) && n >= 0 {
		err = api.OK
		for i, x := range p.b.entries {
			if i >= from && i < from+n && x > 0 {
				want, at = append(want, of(x)), append(at, i)
			}
		}
	}
	got, gotAt, gotErr := p.l.Read(from, n)
	if gotErr != err || !slices.Equal(got, want) || !slices.Equal(gotAt, at) {
		p.t.Errorf("Read(%d, %d): %v, %v, %d", from, n, got, gotAt, gotErr)
	}
	p.meet("read", err)
}

// reopen crashes both disks, now and then, and opens what is there, till that goes well.
func (p *pair) reopen() {
	if p.r.IntN(3) > 0 || p.b.stuck != api.OK {
		keep := []int{p.r.IntN(60), p.r.IntN(60), p.r.IntN(60), p.r.IntN(60)}
		if p.r.IntN(3) == 0 {
			keep = slices.Repeat([]int{math.MaxInt}, 40)
		}
		p.d.Crash(keep...)
		least, most := p.b.crash(p.pending, keep)
		if n := len(p.b.entries); n < least || n > most {
			p.t.Errorf("%d entries behind a crash, not from %d to %d", n, least, most)
		}
		p.met["crash"]++
	}
	fuse := p.r.IntN(6) - 3
	p.d.Arm(fuse)
	p.b.d.Arm(fuse)
	err := p.b.open()
	l, gotErr := journal.Open(p.d, "j", p.b.per)
	is(p.t, gotErr, err)
	p.meet("open", err)
	if err != api.OK {
		p.b.stuck = err
		p.reopen()
		return
	}
	p.l, p.pending = l, nil
}

// arm lights both fuses.
func (p *pair) arm() {
	steps := p.r.IntN(12) - 3
	p.d.Arm(steps)
	p.b.d.Arm(steps)
}

func (p *pair) any() {
	switch k := p.r.IntN(20); {
	case k < 8:
		p.append()
	case k < 11:
		err := p.b.sync()
		is(p.t, p.l.Sync(), err)
		p.meet("sync", err)
	case k < 14:
		p.rewrite()
	case k < 16:
		p.read()
	case k < 18:
		p.reopen()
	default:
		p.arm()
	}
	holds(p.t, p.l, p.b.lasting(), p.b.entries...)
	alike(p.t, p.d, p.b.d)
	lay := afterCrash(p.d, math.MaxInt)
	for _, n := range p.erased {
		if strings.Contains(lay, mark(n)) {
			p.t.Errorf("of the event %d something is left", n)
		}
	}
	if p.t.Failed() {
		p.t.FailNow()
	}
}

// P5.1 to P5.6: any calls behind any calls, with fuses, crashes, and Open again.
func TestAnyCalls(t *testing.T) {
	r := rand.New(rand.NewPCG(1, 5))
	met := map[string]int{}
	for i := range 700 {
		per := []int{1, 2, 3, 7}[i%4]
		d := disk.New()
		l := mustOpen(t, d, "j", per)
		p := &pair{t: t, r: r, d: d, l: l, b: &book{d: disk.New(), per: per}, met: met}
		for range 30 {
			p.any()
		}
	}
	for _, what := range []string{"append0", "append1", "append8", "sync0", "sync8", "rewrite0", "rewrite8", "read0", "read9", "open0", "open8", "crash"} {
		if met[what] < 100 {
			t.Errorf("%s was met %d times", what, met[what])
		}
	}
}
