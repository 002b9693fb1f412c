package rrset_test

import (
	"slices"

	"beadroll/api"
	"beadroll/name"
	"beadroll/rdata"
)

// nameKey is bytewise in the order of names: an end is below everything that could follow.
func nameKey(n string) string {
	labels, _ := name.Labels(name.Fold(n))
	slices.Reverse(labels)
	key := ""
	for _, label := range labels {
		key += "\x01"
		for _, c := range []byte(label) {
			key += string([]byte{1, c})
		}
		key += "\x00"
	}
	return key + "\x00"
}

// two is bytewise in the order of the numbers that types and classes can be.
func two(n int) string {
	return string([]byte{byte(n >> 8), byte(n)})
}

// key is bytewise in the order of valid records, and the same for those that are equal.
func key(r api.RR) string {
	said := r.Data
	if rdata.Right(r.Type, r.Data) {
		said = rdata.Fold(r.Type, r.Data)
	}
	return nameKey(r.Name) + two(r.Type) + two(r.Class) + said
}

func modelIs(l []api.RR) bool {
	for i := range l {
		for j := range i {
			if key(l[j]) >= key(l[i]) {
				return false
			}
		}
	}
	return true
}

// modelOf takes the records one after another, each in the place of the one that is equal to it.
func modelOf(l []api.RR) []api.RR {
	last := map[string]api.RR{}
	for _, r := range l {
		last[key(r)] = r
	}
	keys := []string{}
	for k := range last {
		keys = append(keys, k)
	}
	slices.Sort(keys)
	set := []api.RR{}
	for _, k := range keys {
		set = append(set, last[k])
	}
	return set
}

func modelHas(l []api.RR, r api.RR) bool {
	return slices.ContainsFunc(l, func(s api.RR) bool { return key(s) == key(r) && s.TTL == r.TTL })
}

func modelAlike(a, b []api.RR) bool {
	for _, r := range a {
		if !modelHas(b, r) {
			return false
		}
	}
	for _, r := range b {
		if !modelHas(a, r) {
			return false
		}
	}
	return true
}

func modelPut(l []api.RR, r api.RR) ([]api.RR, bool) {
	set := modelOf(append(slices.Clone(l), r))
	return set, !slices.Equal(set, l)
}

func modelDrop(l []api.RR, r api.RR) ([]api.RR, bool) {
	left := modelWithout(l, []api.RR{r})
	return left, len(left) < len(l)
}

func modelFind(l []api.RR, r api.RR) (api.RR, bool) {
	for _, s := range l {
		if key(s) == key(r) {
			return s, true
		}
	}
	return api.RR{}, false
}

func modelAt(l []api.RR, n string) []api.RR {
	at := []api.RR{}
	for _, r := range l {
		if name.Right(n) && nameKey(r.Name) == nameKey(n) {
			at = append(at, r)
		}
	}
	return at
}

func modelTyped(l []api.RR, t int) []api.RR {
	typed := []api.RR{}
	for _, r := range l {
		if r.Type == t {
			typed = append(typed, r)
		}
	}
	return typed
}

func modelWithout(l, k []api.RR) []api.RR {
	left := []api.RR{}
	for _, r := range l {
		if _, found := modelFind(k, r); !found {
			left = append(left, r)
		}
	}
	return left
}
