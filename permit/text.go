package permit

import (
	"strconv"
	"strings"

	"keelblock/api"
)

// mostParts are those of the longest text of an event; in a longer one, the last part is neither a
// name nor a number, as there is a blank in it.
const mostParts = 5

// words are those of the events in their texts.
var words = [...]string{
	api.EventTick:    "tick",
	api.EventApprove: "approve",
	api.EventOpen:    "open",
	api.EventSuspend: "suspend",
	api.EventResume:  "resume",
	api.EventClose:   "close",
	api.EventCancel:  "cancel",
	api.EventGas:     "gas",
	api.EventEnter:   "enter",
	api.EventLeave:   "leave",
	api.EventAlarm:   "alarm",
	api.EventExtend:  "extend",
}

// A field of an event is a number, or else a name.
type field struct {
	number *int
	name   *string
}

// fieldsOf returns the named fields of an event, in the order of its text.
func fieldsOf(x *api.Event) []field {
	name, space, person := field{name: &x.Name}, field{name: &x.Space}, field{name: &x.Person}
	switch x.Op {
	case api.EventApprove, api.EventOpen, api.EventResume:
		return []field{name, person}
	case api.EventSuspend, api.EventClose, api.EventCancel:
		return []field{name}
	case api.EventGas:
		return []field{space, {number: &x.Oxygen}, {number: &x.Gas}}
	case api.EventEnter:
		return []field{person, space}
	case api.EventLeave:
		return []field{person}
	case api.EventAlarm:
		return []field{space}
	case api.EventExtend:
		return []field{name, person, {number: &x.To}}
	}
	return nil
}

// FormatEvent writes an event.
func FormatEvent(x api.Event) (string, api.Errno) {
	if e := eventError(&x); e != api.OK {
		return "", e
	}
	text := strconv.Itoa(x.At) + " " + words[x.Op]
	for _, f := range fieldsOf(&x) {
		text += " " + f.text()
	}
	return text, api.OK
}

// eventError returns the error of an event that is to be written.
func eventError(x *api.Event) api.Errno {
	if !isOp(x.Op) || !isMinute(x.At) {
		return api.ErrRange
	}
	fields := fieldsOf(x)
	for _, f := range fields {
		if f.number != nil && !isMinute(*f.number) {
			return api.ErrRange
		}
	}
	for _, f := range fields {
		if f.name != nil && !isName(*f.name) {
			return api.ErrName
		}
	}
	return api.OK
}

// ParseEvent reads what FormatEvent writes.
func ParseEvent(s string) (api.Event, api.Errno) {
	parts := strings.SplitN(s, " ", mostParts)
	if len(parts) < 2 {
		return api.Event{}, api.ErrSyntax
	}
	x := api.Event{At: read(parts[0]), Op: opOf(parts[1])}
	for i, f := range fieldsOf(&x) {
		if i+2 < len(parts) {
			f.set(parts[i+2])
		}
	}
	// whatever does not fit has made an event with another text, or without one
	if text, e := FormatEvent(x); e != api.OK || text != s {
		return api.Event{}, api.ErrSyntax
	}
	return x, api.OK
}

// opOf returns the Op of a word, or -1.
func opOf(word string) int {
	for op, w := range words {
		if w == word {
			return op
		}
	}
	return -1
}

func (f field) text() string {
	if f.number != nil {
		return strconv.Itoa(*f.number)
	}
	return *f.name
}

func (f field) set(text string) {
	if f.number != nil {
		*f.number = read(text)
		return
	}
	*f.name = text
}

// read returns a number, or any other one if the text is none.
func read(text string) int {
	n, _ := strconv.Atoi(text)
	return n
}
