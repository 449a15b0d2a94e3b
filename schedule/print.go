package schedule

import (
	"strconv"
	"strings"

	"keelblock/api"
)

// Asks returns the permits that a plan asks for.
func Asks(w api.Work, s []api.Slot) ([]api.Ask, api.Errno) {
	p, e := rightPlanOf(w, s)
	if e != api.OK {
		return nil, e
	}
	var out []api.Ask
	for _, i := range p.byTime() {
		x, t := p.Items[i], p.time(i)
		if x.Kind != noKind {
			out = append(out, api.Ask{Item: x.Name, Space: x.Space, Kind: x.Kind, From: t.from, To: t.to})
		}
	}
	return out, api.OK
}

// PrintPlan returns a line for each item with its days and its crew.
func PrintPlan(w api.Work, s []api.Slot) (string, api.Errno) {
	p, e := planOf(w, s)
	if e != api.OK {
		return "", e
	}
	var out strings.Builder
	for _, i := range p.byTime() {
		t := p.time(i)
		days := strconv.Itoa(t.from) + "-" + strconv.Itoa(t.to-1)
		out.WriteString(p.names[i] + " " + days + " " + strconv.Itoa(p.mode(i).Crew) + "\n")
	}
	return out.String(), api.OK
}
