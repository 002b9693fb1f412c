package lookup_test

import (
	"slices"

	"beadroll/api"
	"beadroll/lookup"
)

// The model reads the chapter once more: it keeps an apex and a plain list, looks through all of it for every answer, and divides and compares names by itself, so that it asks no other layer. Of the list it uses nothing but the order in which records are told.
type model struct {
	apex string
	set  []api.RR
}

// tails are a name and its ancestors up to the root, or nothing if it is not a name.
func tails(n string) []string {
	l := []string{n}
	if len(n) > 255 {
		return nil
	}
	for n != root {
		if n == "" || n[0] == 0 || n[0] > 63 || len(n) <= int(n[0]) {
			return nil
		}
		n = n[1+int(n[0]):]
		l = append(l, n)
	}
	return l
}

// lower leaves out that lengths are no letters, because they are all below "A".
func lower(s string) string {
	b := []byte(s)
	for i, c := range b {
		if 'A' <= c && c <= 'Z' {
			b[i] += 32
		}
	}
	return string(b)
}

func modelUnder(n, above string) bool {
	return slices.ContainsFunc(tails(n), func(tail string) bool { return lower(tail) == lower(above) })
}

func (m model) at(n string) []api.RR {
	l := []api.RR{}
	for _, r := range m.set {
		if lower(r.Name) == lower(n) {
			l = append(l, r)
		}
	}
	return l
}

func typed(l []api.RR, t int) []api.RR {
	k := []api.RR{}
	for _, r := range l {
		if r.Type == t {
			k = append(k, r)
		}
	}
	return k
}

// cut is as long as the shortest name of an NS record below the apex that n is under.
func (m model) cut(n string) (string, bool) {
	size := 256
	for _, r := range m.set {
		if r.Type == ns && len(r.Name) > len(m.apex) && modelUnder(n, r.Name) {
			size = min(size, len(r.Name))
		}
	}
	if size == 256 {
		return "", false
	}
	return n[len(n)-size:], true
}

// closest is as long as the longest ancestor that n has in common with a record's name.
func (m model) closest(n string) (string, bool) {
	if !modelUnder(n, m.apex) || len(n) == len(m.apex) {
		return "", false
	}
	size := 0
	for _, r := range m.set {
		for _, tail := range tails(r.Name) {
			if len(tail) < len(n) && modelUnder(n, tail) {
				size = max(size, len(tail))
			}
		}
	}
	return n[len(n)-size:], true
}

func (m model) no() api.RR {
	r := typed(m.set, soa)[0]
	minimum := 0
	for _, c := range []byte(r.Data[len(r.Data)-4:]) {
		minimum = minimum<<8 | int(c)
	}
	if minimum < r.TTL {
		r.TTL = minimum
	}
	return r
}

func (m model) find(n string) ([]api.RR, bool) {
	if !modelUnder(n, m.apex) {
		return nil, false
	}
	for _, r := range m.set {
		if modelUnder(r.Name, n) {
			return m.at(n), true
		}
	}
	encloser, _ := m.closest(n)
	l := m.at("\x01*" + encloser)
	for i := range l {
		l[i].Name = n
	}
	return l, len(l) > 0
}

func (m model) refer(cut string, an []api.RR) lookup.Answer {
	answer := lookup.Answer{AA: len(an) > 0, An: an, Ns: typed(m.at(cut), ns)}
	for _, r := range answer.Ns {
		if modelUnder(r.Data, cut) {
			answer.Ad = slices.Concat(answer.Ad, typed(m.at(r.Data), a), typed(m.at(r.Data), aaaa))
		}
	}
	return answer
}

// ask answers for the last one of the names that were asked for, when an has been answered for the others.
func (m model) ask(asked []string, t int, an []api.RR) lookup.Answer {
	n := asked[len(asked)-1]
	if !modelUnder(n, m.apex) {
		return lookup.Answer{Rcode: api.Refused}
	}
	if cut, ok := m.cut(n); ok {
		return m.refer(cut, an)
	}
	l, ok := m.find(n)
	alias := typed(l, cname)
	switch {
	case !ok:
		return lookup.Answer{Rcode: api.NXDomain, AA: true, An: an, Ns: []api.RR{m.no()}}
	case t == 255:
		return lookup.Answer{AA: true, An: slices.Concat(an, l)}
	case t != cname && len(alias) == 1:
		target := alias[0].Data
		an = slices.Concat(an, alias)
		if len(asked) >= 8 || !modelUnder(target, m.apex) || slices.ContainsFunc(asked, func(s string) bool { return lower(s) == lower(target) }) {
			return lookup.Answer{AA: true, An: an}
		}
		return m.ask(slices.Concat(asked, []string{target}), t, an)
	case len(typed(l, t)) == 0:
		return lookup.Answer{AA: true, An: an, Ns: []api.RR{m.no()}}
	}
	return lookup.Answer{AA: true, An: slices.Concat(an, typed(l, t))}
}
