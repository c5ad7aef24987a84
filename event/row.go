package event

import (
	"strings"

	"cicerone/api"
)

// row is what a kind asks of an event, and the kind's name; what it doesn't ask for has to be empty, or 0.
type row struct {
	word         string
	person, item bool
	least, most  int
	text         textForm
}

type textForm int

const (
	noText textForm = iota
	makerText
	listText
)

var rows = [...]row{
	Seen:       {word: "seen", person: true, item: true},
	Opened:     {word: "opened", person: true, item: true},
	Finished:   {word: "finished", person: true, item: true},
	Bought:     {word: "bought", person: true, item: true},
	Rated:      {word: "rated", person: true, item: true, least: 1, most: 5},
	Hidden:     {word: "hidden", person: true, item: true},
	Unhidden:   {word: "unhidden", person: true, item: true},
	Followed:   {word: "followed", person: true, text: makerText},
	Unfollowed: {word: "unfollowed", person: true, text: makerText},
	Muted:      {word: "muted", person: true, text: makerText},
	Unmuted:    {word: "unmuted", person: true, text: makerText},
	Listed:     {word: "listed", item: true, most: api.MaxValue, text: listText},
	Stocked:    {word: "stocked", item: true, most: api.MaxValue},
	Delisted:   {word: "delisted", item: true},
	Forgotten:  {word: "forgotten", person: true},
}

// kindOf is -1 of a word that names no kind: no event that may be has it.
func kindOf(word string) Kind {
	for k := range rows {
		if rows[k].word == word {
			return Kind(k)
		}
	}
	return -1
}

func nameOrNone(asked bool, s string) bool {
	if asked {
		return Name(s)
	}
	return s == ""
}

func wording(form textForm, s string) bool {
	switch form {
	case makerText:
		return Name(s)
	case listText:
		return strings.Contains(s, ";") && Name(Maker(s)) && risingTags(Tags(s))
	}
	return s == ""
}

func risingTags(l []string) bool {
	if len(l) > api.MaxTags {
		return false
	}
	for i, tag := range l {
		if !Name(tag) || i > 0 && tag <= l[i-1] {
			return false
		}
	}
	return true
}
