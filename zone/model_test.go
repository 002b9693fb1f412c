package zone_test

import (
	"slices"
	"strings"

	"beadroll/api"
	"beadroll/name"
	"beadroll/rdata"
	"beadroll/record"
)

// The model reads the chapter once more: it keeps a plain list, looks through all of it (and all pairs of it) for every answer, and never relies on an order. Only for what is valid, folded or equal it asks layers 7, 10 and 11.

func modelDataType(t int) bool {
	switch {
	case t < 1, t == 41, t >= 128 && t <= 255, t >= 65536:
		return false
	}
	return true
}

// textOf is a name's labels from the last one on, each with its length before it: that of a name begins with those of all names that it is under.
func textOf(n string) string {
	labels, _ := name.Labels(name.Fold(n))
	text := ""
	for _, label := range labels {
		text = string([]byte{byte(len(label))}) + label + text
	}
	return text
}

func modelAlike(a, b string) bool {
	return name.Right(a) && name.Right(b) && textOf(a) == textOf(b)
}

func modelUnder(n, zone string) bool {
	return name.Right(n) && name.Right(zone) && strings.HasPrefix(textOf(n), textOf(zone))
}

// modelSet leaves out the records to which a later one is equal, and inserts the others one by one.
func modelSet(l []api.RR) []api.RR {
	set := []api.RR{}
	for i, r := range l {
		if slices.ContainsFunc(l[i+1:], func(s api.RR) bool { return record.One(r, s) }) {
			continue
		}
		at := 0
		for at < len(set) && record.Compare(set[at], r) < 0 {
			at++
		}
		set = slices.Insert(set, at, r)
	}
	return set
}

func count(l []api.RR, counts func(r api.RR) bool) int {
	n := 0
	for _, r := range l {
		if counts(r) {
			n++
		}
	}
	return n
}

// modelIs reports whether a set of valid records is a zone, by one reason after another why it is not.
func modelIs(apex string, set []api.RR) bool {
	if len(set) > api.MaxZone {
		return false
	}
	for i, r := range set {
		if r.Class != 1 || !modelDataType(r.Type) || !modelUnder(r.Name, apex) {
			return false
		}
		for j, s := range set {
			if i != j && r.Type == 5 && modelAlike(r.Name, s.Name) {
				return false
			}
		}
	}
	soas := count(set, func(r api.RR) bool { return r.Type == 6 })
	top := count(set, func(r api.RR) bool { return r.Type == 6 && modelAlike(r.Name, apex) })
	servers := count(set, func(r api.RR) bool { return r.Type == 2 && modelAlike(r.Name, apex) })
	return soas == 1 && top == 1 && servers >= 1
}

func modelNew(apex string, l []api.RR) ([]api.RR, api.Errno) {
	if !name.Right(apex) || count(l, record.Right) < len(l) {
		return nil, api.ErrForm
	}
	set := modelSet(l)
	if len(set) > api.MaxZone {
		return nil, api.ErrLong
	}
	if !modelIs(apex, set) {
		return nil, api.ErrApex
	}
	return set, 0
}

func modelSoa(set []api.RR) (api.RR, rdata.SOA) {
	for _, r := range set {
		if r.Type == 6 {
			parts, _ := rdata.Soa(r.Data)
			return r, parts
		}
	}
	return api.RR{}, rdata.SOA{}
}

// modelWithSerial changes the four bytes of the serial, which stand before the last sixteen.
func modelWithSerial(set []api.RR, n uint32) []api.RR {
	other := slices.Clone(set)
	for i, r := range other {
		if r.Type == 6 {
			at := len(r.Data) - 20
			other[i].Data = r.Data[:at] + string([]byte{byte(n >> 24), byte(n >> 16), byte(n >> 8), byte(n)}) + r.Data[at+4:]
		}
	}
	return other
}

func modelAt(set []api.RR, n string) []api.RR {
	at := []api.RR{}
	for _, r := range set {
		if modelAlike(r.Name, n) {
			at = append(at, r)
		}
	}
	return at
}

func modelTyped(set []api.RR, n string, t int) []api.RR {
	typed := []api.RR{}
	for _, r := range modelAt(set, n) {
		if r.Type == t {
			typed = append(typed, r)
		}
	}
	return typed
}

func modelEmpty(set []api.RR, n string) bool {
	under := count(set, func(r api.RR) bool { return modelUnder(r.Name, n) })
	return len(modelAt(set, n)) == 0 && under > 0
}

// modelNames inserts each name before the first one that is greater.
func modelNames(set []api.RR) []string {
	names := []string{}
	for _, r := range set {
		n := name.Fold(r.Name)
		if slices.Contains(names, n) {
			continue
		}
		at := 0
		for at < len(names) && name.Compare(names[at], n) < 0 {
			at++
		}
		names = slices.Insert(names, at, n)
	}
	return names
}
