package diff_test

import (
	"slices"

	"beadroll/api"
	"beadroll/record"
	"beadroll/zone"
)

// The model reads the chapter once more: it compares the fields one by one, holds every record against every other one, and never relies on an order. Only for what is equal it asks layer 11, and for what is a zone layer 14.

func modelSame(r, s api.RR) bool {
	names := r.Name == s.Name
	numbers := r.Type == s.Type && r.Class == s.Class && r.TTL == s.TTL
	return names && numbers && r.Data == s.Data
}

func modelHas(l []api.RR, r api.RR) bool {
	for _, s := range l {
		if modelSame(r, s) {
			return true
		}
	}
	return false
}

func modelMissing(l, k []api.RR) []api.RR {
	missing := []api.RR{}
	for _, r := range l {
		if !modelHas(k, r) {
			missing = append(missing, r)
		}
	}
	return missing
}

func modelOf(x, y zone.Zone) ([]api.RR, []api.RR) {
	return modelMissing(x.All(), y.All()), modelMissing(y.All(), x.All())
}

func modelIsSame(x, y zone.Zone) bool {
	del, add := modelOf(x, y)
	return len(del) == 0 && len(add) == 0 && x.Apex() == y.Apex()
}

// modelApply takes the records away and adds the others one after another: what occurs twice in del is gone the second time.
func modelApply(z zone.Zone, del, add []api.RR) (zone.Zone, api.Errno) {
	left := z.All()
	for _, r := range del {
		i := slices.IndexFunc(left, func(s api.RR) bool { return modelSame(r, s) })
		if i < 0 {
			return zone.Zone{}, api.ErrGap
		}
		left = slices.Delete(left, i, i+1)
	}
	for _, r := range add {
		for _, s := range left {
			if record.One(r, s) {
				return zone.Zone{}, api.ErrGap
			}
		}
		left = append(left, r)
	}
	return zone.New(z.Apex(), left)
}
