package journal

import (
	"slices"
	"strconv"
	"strings"

	"cicerone/api"
	"cicerone/disk"
	"cicerone/event"
	"cicerone/frame"
)

// maxPer is the most places that a segment may have.
const maxPer = 4096

// Open is the journal of that name on d, with the entries of its files, all of which last.
func Open(d *disk.Disk, name string, per int) (*Log, api.Errno) {
	if !event.Name(name) || per < 1 || per > maxPer {
		return nil, api.ErrArg
	}
	if d.Down() {
		return nil, api.ErrDown
	}
	l := &Log{disk: d, name: name, per: per}
	if err := l.count(); err != api.OK {
		return nil, err
	}
	torn, whole, err := l.load()
	if err != api.OK {
		return nil, err
	}
	if torn {
		l.told(d.Replace(l.lastFile(), whole))
	} else {
		l.Sync()
	}
	if l.stuck != api.OK {
		return nil, l.stuck
	}
	l.lasting = len(l.entries)
	return l, api.OK
}

// count finds out how many files there are: as many as have a segment's name, if these are the first ones.
func (l *Log) count() api.Errno {
	names := l.disk.Names()
	for _, name := range names {
		if digits, ok := strings.CutPrefix(name, l.name+"."); ok && decimal(digits) {
			l.files++
		}
	}
	for k := range l.files {
		if _, there := slices.BinarySearch(names, l.file(k)); !there {
			return api.ErrGap
		}
	}
	return api.OK
}

// load takes up the entries of all files. It tells whether the last one is torn, and the bytes of its whole frames.
func (l *Log) load() (bool, []byte, api.Errno) {
	var b []byte
	end := 0
	for k := range l.files {
		// The disk isn't down, and has the file.
		b, _ = l.disk.Read(l.file(k))
		payloads, whole, state := frame.All(b)
		last := k == l.files-1
		if state == frame.Bad || len(payloads) > l.per || !last && (state == frame.Torn || len(payloads) < l.per) {
			return false, nil, api.ErrBad
		}
		if err := l.take(payloads); err != api.OK {
			return false, nil, err
		}
		end = whole
	}
	return end < len(b), b[:end], api.OK
}

// take puts the entries of these payloads behind those that are there.
func (l *Log) take(payloads [][]byte) api.Errno {
	i := 0
next:
	if i == len(payloads) {
		return api.OK
	}
	var e event.Event
	if payload := payloads[i]; len(payload) > 0 {
		x, n, err := event.Decode(payload)
		if err != api.OK || n < len(payload) {
			return api.ErrBad
		}
		e = x
	}
	l.entries = append(l.entries, e)
	i++
	goto next
}

// frames is the bytes of these entries in a file.
func frames(entries ...event.Event) []byte {
	var b []byte
	for _, e := range entries {
		var payload []byte
		if !erased(e) {
			payload, _ = event.Encode(e)
		}
		// An event that may be has some 320 bytes at most: a frame takes them.
		f, _ := frame.Seal(payload)
		b = append(b, f...)
	}
	return b
}

// file is the name of the file of the segment k.
func (l *Log) file(k int) string {
	return l.name + "." + strconv.Itoa(k)
}

func (l *Log) lastFile() string {
	return l.file(l.files - 1)
}

// decimal tells whether s is a number's digits, without noughts ahead of others; the number may be greater than any int.
func decimal(s string) bool {
	if s == "" || s[0] == '0' && s != "0" {
		return false
	}
	for i := range len(s) {
		if s[i] < '0' || s[i] > '9' {
			return false
		}
	}
	return true
}
