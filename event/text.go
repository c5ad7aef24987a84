package event

import (
	"strconv"
	"strings"

	"cicerone/api"
)

const (
	words = 8
	// empty can stand for an empty text, since no field of an event that may be is a point.
	empty = "."
)

// Format is the text of e, the empty one if e may not be.
func Format(e Event) string {
	if !May(e) {
		return ""
	}
	return strings.Join([]string{
		wordOf(e.Source), strconv.Itoa(e.Number), strconv.Itoa(e.At), rows[e.Kind].word,
		wordOf(e.Person), wordOf(e.Item), strconv.Itoa(e.Value), wordOf(e.Text),
	}, " ")
}

func wordOf(s string) string {
	if s == "" {
		return empty
	}
	return s
}

// Parse is the event whose text s is, as a whole.
func Parse(s string) (Event, api.Errno) {
	l := strings.SplitN(s, " ", words+1)
	if len(l) != words {
		return Event{}, api.ErrForm
	}
	e := Event{
		Source: textOf(l[0]), Number: numberOf(l[1]), At: numberOf(l[2]), Kind: kindOf(l[3]),
		Person: textOf(l[4]), Item: textOf(l[5]), Value: numberOf(l[6]), Text: textOf(l[7]),
	}
	// An event that may be has just one text, any other the empty one: so this finds noughts ahead, signs and empty words, too.
	if Format(e) != s {
		return Event{}, api.ErrForm
	}
	return e, api.OK
}

func textOf(word string) string {
	if word == empty {
		return ""
	}
	return word
}

// numberOf is -1 of what is no number: no event that may be has it.
func numberOf(word string) int {
	n, err := strconv.Atoi(word)
	if err != nil {
		return -1
	}
	return n
}
