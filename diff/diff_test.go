package diff_test

import (
	"fmt"
	"math"
	"math/rand"
	"slices"
	"strings"
	"testing"

	"beadroll/api"
	"beadroll/diff"
	"beadroll/name"
	"beadroll/rdata"
	"beadroll/record"
	"beadroll/rrset"
	"beadroll/zone"
)

const (
	a        = 1
	ns       = 2
	cname    = 5
	soa      = 6
	mx       = 15
	txt      = 16
	srv      = 33
	in       = 1
	none     = 254
	anyClass = 255

	root  = "\x00"
	apex  = "\x01a\x00"
	upper = "\x01A\x00"
	// numbers are the serial 41424344, and the four others.
	numbers = "ABCDEFGHIJKLMNOPQRST"
)

var (
	// foreign stands in the spare capacity of what is handed in, and scribble is written over what is returned.
	foreign  = rr("\x07foreign\x00", 9, 9, 77777, "foreign")
	scribble = rr("\x08scribble\x00", 8, 8, 77777, "scribble")

	soaOfA  = rr(upper, soa, in, 7, "\x01M\x01a\x00\x01r\x00"+numbers)
	nsOfA   = rr(apex, ns, in, 5, "\x01N\x01a\x00")
	address = rr("\x01x\x01a\x00", a, in, 5, "abcd")
	alias   = rr("\x01c\x01a\x00", cname, in, 5, "\x01x\x01A\x00")
	// fresh is a record that ordered has not, and that no record of it is equal to.
	fresh = rr("\x01f\x01a\x00", mx, in, 5, "\x00\x0a\x01m\x00")
	// outside makes every zone a. none.
	outside = rr("\x01b\x00", a, in, 5, "abcd")
)

// small is the least that the zone a. can be, and ordered is one with names at several depths, in several cases.
var small = []api.RR{nsOfA, soaOfA}

var ordered = []api.RR{
	rr(upper, a, in, 5, "ABCD"),
	rr(apex, a, in, 5, "abcd"),
	nsOfA,
	rr(upper, ns, in, 2147483647, "\x01o\x00"),
	soaOfA,
	rr(apex, 127, in, 0, ""),
	rr(apex, 256, in, 0, ""),
	rr(apex, 65535, in, 0, "ab"),
	rr("\x01*\x01a\x00", mx, in, 5, "\x00\x0a\x01M\x00"),
	rr("\x02bb\x01a\x00", ns, in, 5, "\x01n\x02bb\x01a\x00"),
	rr("\x01n\x02BB\x01a\x00", a, in, 5, "abcd"),
	alias,
	rr("\x01X\x01c\x01A\x00", a, in, 5, "abcd"),
	rr("\x01x\x01c\x01a\x00", txt, in, 5, "\x01A"),
	rr("\x01x\x01C\x01a\x00", txt, in, 6, "\x01a"),
	rr("\x01z\x01y\x01D\x01a\x00", a, in, 5, "\x00\x00\x00\x00"),
	rr("\x01s\x01S\x01a\x00", srv, in, 5, "ABCDEF\x01S\x00"),
	rr("\x01v\x01w\x01s\x01a\x00", 40, in, 5, "v"),
	rr("\x01x\x01a\x00", a, in, 5, "abcd"),
	rr("\x01\xff\x01a\x00", 42, in, 5, "\xff"),
}

// notNamed are records whose name is not one: none is equal to any record, itself included.
var notNamed = []api.RR{
	{},
	rr("", a, in, 5, "abcd"),
	rr("\x01", a, in, 5, "abcd"),
	rr("\x01x\x01a", a, in, 5, "abcd"),
	rr("x.a.", a, in, 5, "abcd"),
	rr("\x01x\x01a\x00\x00", a, in, 5, "abcd"),
	rr("\x01x\xc0\x00", a, in, 5, "abcd"),
	rr("\x40"+strings.Repeat("x", 64)+"\x01a\x00", a, in, 5, "abcd"),
	rr(strings.Repeat("\x01x", 127)+"\x01a\x00", a, in, 5, "abcd"),
	rr("\x01x\x01a", -1, -1, -1, ""),
}

// named are records that have a name, but are not valid; none is equal to another one or to one of ordered.
var named = []api.RR{
	rr("\x01x\x01a\x00", -1, in, 5, "abcd"),
	rr("\x01x\x01a\x00", 65536, in, 5, "abcd"),
	rr("\x01x\x01a\x00", math.MaxInt, in, 5, "abcd"),
	rr("\x01x\x01a\x00", a, -1, 5, "abcd"),
	rr("\x01x\x01a\x00", a, 65536, 5, "abcd"),
	rr("\x01x\x01a\x00", a, in, 5, ""),
	rr("\x01x\x01a\x00", a, in, 5, "abc"),
	rr("\x01x\x01a\x00", a, in, 5, "abcde"),
	rr("\x01x\x01a\x00", a, none, 5, "abc"),
	rr(apex, ns, in, 5, "\x01N\x01a"),
	rr(apex, ns, in, 5, "\x01n\x01a"), // data that is not valid is not folded
	rr(apex, soa, in, 5, "\x01M\x00\x01r\x00"+numbers[1:]),
	rr("\x01x\x01a\x00", a, in, -1, "efgh"),
	rr("\x01x\x01a\x00", a, in, api.MaxTTL+1, "ijkl"),
	rr(root, a, in, math.MinInt, "efgh"),
	rr("\x01x\x01a\x00", 300, in, 5, strings.Repeat("x", api.MaxData+1)),
}

// elsewhere are valid records that no zone a. has: of another class, or type, or outside of it.
var elsewhere = []api.RR{
	rr("\x01x\x01a\x00", a, none, 5, "abcd"),
	rr("\x01x\x01a\x00", a, none, 5, ""),
	rr("\x01x\x01a\x00", a, anyClass, 0, ""),
	rr("\x01x\x01a\x00", a, 2, 5, "abcd"),
	rr("\x01x\x01a\x00", a, 0, 5, "abcd"),
	rr("\x01x\x01a\x00", 0, in, 5, "abcd"),
	rr("\x01x\x01a\x00", 41, in, 5, "abcd"),
	rr("\x01x\x01a\x00", 128, in, 5, "abcd"),
	rr("\x01x\x01a\x00", 255, in, 5, "abcd"),
	rr(root, a, in, 5, "abcd"),
	rr("\x01x\x01b\x00", a, in, 5, "abcd"),
	rr("\x03x\x01a\x00", a, in, 5, "abcd"),
	outside,
}

func rr(n string, typ, class, ttl int, data string) api.RR {
	return api.RR{Name: n, Type: typ, Class: class, TTL: ttl, Data: data}
}

func list(l ...api.RR) []api.RR {
	return l
}

// swap exchanges capital and small letters.
func swap(s string) string {
	b := []byte(s)
	for i, c := range b {
		if 'a' <= c|0x20 && c|0x20 <= 'z' {
			b[i] ^= 0x20
		}
	}
	return string(b)
}

// swapData exchanges the letters in the names of data.
func swapData(r api.RR) string {
	switch r.Type {
	case ns, cname:
		return swap(r.Data)
	case mx:
		return r.Data[:2] + swap(r.Data[2:])
	case srv:
		return r.Data[:6] + swap(r.Data[6:])
	case soa:
		return swap(r.Data[:len(r.Data)-20]) + r.Data[len(r.Data)-20:]
	}
	return r.Data
}

// twins are records that are equal to r, but not the same: with another TTL, with another case of the name, with one of the data, and with several of these.
func twins(r api.RR) []api.RR {
	l := []api.RR{}
	for bits := range 8 {
		s := r
		if bits&1 != 0 {
			s.TTL = r.TTL ^ 1
		}
		if bits&2 != 0 {
			s.Name = swap(r.Name)
		}
		if bits&4 != 0 {
			s.Data = swapData(r)
		}
		if s != r && !slices.Contains(l, s) {
			l = append(l, s)
		}
	}
	return l
}

// variants are records that differ from r in one field only, valid or not.
func variants(r api.RR) []api.RR {
	l := []api.RR{}
	for _, n := range []string{swap(r.Name), "\x01q" + r.Name, root, r.Name[:len(r.Name)-1], ""} {
		l = append(l, rr(n, r.Type, r.Class, r.TTL, r.Data))
	}
	for _, typ := range []int{r.Type + 2, r.Type + 65536, r.Type ^ 64, -r.Type, 0} {
		l = append(l, rr(r.Name, typ, r.Class, r.TTL, r.Data))
	}
	for _, class := range []int{0, 2, none, anyClass, 65537, -1} {
		l = append(l, rr(r.Name, r.Type, class, r.TTL, r.Data))
	}
	for _, ttl := range []int{r.TTL + 1, r.TTL - 1, r.TTL ^ 256, r.TTL + 1<<32, -r.TTL} {
		l = append(l, rr(r.Name, r.Type, r.Class, ttl, r.Data))
	}
	for _, data := range []string{swapData(r), r.Data + "\x00", r.Data[:len(r.Data)/2], "abce"} {
		l = append(l, rr(r.Name, r.Type, r.Class, r.TTL, data))
	}
	return slices.DeleteFunc(l, func(s api.RR) bool { return s == r })
}

func brief(s string) string {
	if len(s) > 40 {
		return fmt.Sprintf("%q.. (%d bytes)", s[:40], len(s))
	}
	return fmt.Sprintf("%q", s)
}

func told(l ...api.RR) string {
	s := fmt.Sprintf("%d:", len(l))
	for _, r := range l[:min(len(l), 12)] {
		s += fmt.Sprintf(" {%s %d %d TTL %d %s}", brief(r.Name), r.Type, r.Class, r.TTL, brief(r.Data))
	}
	return s
}

// reversed, shuffled, with, instead and less are other lists of the same records, or almost the same.
func reversed(l []api.RR) []api.RR {
	k := slices.Clone(l)
	slices.Reverse(k)
	return k
}

func shuffled(random *rand.Rand, l []api.RR) []api.RR {
	k := slices.Clone(l)
	random.Shuffle(len(k), func(i, j int) { k[i], k[j] = k[j], k[i] })
	return k
}

func with(l []api.RR, i int, r ...api.RR) []api.RR {
	return slices.Insert(slices.Clone(l), i, r...)
}

func instead(l []api.RR, i int, r api.RR) []api.RR {
	k := slices.Clone(l)
	k[i] = r
	return k
}

func less(l []api.RR, i int) []api.RR {
	return slices.Delete(slices.Clone(l), i, i+1)
}

func makeZone(t *testing.T, apex string, l []api.RR) zone.Zone {
	t.Helper()
	z, e := zone.New(apex, l)
	if e != api.OK {
		t.Fatalf("New(%s, %s): %d", brief(apex), told(l...), e)
	}
	return z
}

// given is a copy of a list that is handed in, with spare capacity.
type given struct {
	l, all, before []api.RR
}

func give(l []api.RR) given {
	all := append(slices.Clone(l), foreign, foreign, foreign)
	return given{all[:len(l)], all, slices.Clone(all)}
}

func (g given) check(t *testing.T) {
	t.Helper()
	if !slices.Equal(g.all, g.before) {
		t.Errorf("the call changed what was handed in: %s; before %s", told(g.all...), told(g.before...))
	}
}

// spoil writes over a list, and what capacity it has.
func spoil(l []api.RR) {
	l = l[:cap(l)]
	for i := range l {
		l[i] = scribble
	}
}

func checkList(t *testing.T, call string, got, want []api.RR) {
	t.Helper()
	if !slices.Equal(got, want) {
		t.Errorf("%s: %s; want %s", call, told(got...), told(want...))
	}
}

// checkZone checks all that a zone is made of.
func checkZone(t *testing.T, z zone.Zone, apex string, set []api.RR) {
	t.Helper()
	checkList(t, "the zone", z.All(), set)
	if z.Apex() != apex {
		t.Errorf("the apex is %s; want %s", brief(z.Apex()), brief(apex))
	}
	r, _ := z.Soa()
	if !slices.Contains(set, r) || r.Type != soa {
		t.Errorf("the SOA is %s; want the one of %s", told(r), told(set...))
	}
}

// checkOf asks twice, and writes over the first difference, one list after the other.
func checkOf(t *testing.T, x, y zone.Zone, wantDel, wantAdd []api.RR) {
	t.Helper()
	l, k := x.All(), y.All()
	for range 2 {
		del, add := diff.Of(x, y)
		checkList(t, "deleted", del, wantDel)
		checkList(t, "added", add, wantAdd)
		spoil(del)
		checkList(t, "added, when the deleted ones are written over", add, wantAdd)
		spoil(add)
		checkZone(t, x, x.Apex(), l)
		checkZone(t, y, y.Apex(), k)
	}
}

// checkBoth checks the difference of two zones and the exchanged one, and whether they are the same.
func checkBoth(t *testing.T, x, y zone.Zone, del, add []api.RR) {
	t.Helper()
	checkOf(t, x, y, del, add)
	checkOf(t, y, x, add, del)
	checkSame(t, x, y, len(del) == 0 && len(add) == 0 && x.Apex() == y.Apex())
}

func checkSame(t *testing.T, x, y zone.Zone, want bool) {
	t.Helper()
	if got, back := diff.Same(x, y), diff.Same(y, x); got != want || back != want {
		t.Errorf("Same(%s %s, %s %s) = %v, and back %v", brief(x.Apex()), told(x.All()...), brief(y.Apex()), told(y.All()...), got, back)
	}
}

// apply calls Apply and checks that neither the zone nor the lists are changed, and that changing the lists afterwards does not matter.
func apply(t *testing.T, z zone.Zone, del, add []api.RR) (zone.Zone, api.Errno) {
	t.Helper()
	set, n := z.All(), z.Apex()
	d, k := give(del), give(add)
	y, e := diff.Apply(z, d.l, k.l)
	d.check(t)
	k.check(t)
	got := y.All()
	spoil(d.all)
	spoil(k.all)
	checkList(t, "the result, when the lists are written over", y.All(), got)
	checkZone(t, z, n, set)
	return y, e
}

func checkApply(t *testing.T, z zone.Zone, del, add, want []api.RR) zone.Zone {
	t.Helper()
	y, e := apply(t, z, del, add)
	if e != api.OK {
		t.Errorf("Apply to %s of %s and %s: %d", told(z.All()...), told(del...), told(add...), e)
		return z
	}
	checkZone(t, y, z.Apex(), want)
	return y
}

func isZero(z zone.Zone) bool {
	r, parts := z.Soa()
	return z.Apex() == "" && len(z.All()) == 0 && r == api.RR{} && parts == rdata.SOA{}
}

func checkError(t *testing.T, z zone.Zone, del, add []api.RR, want api.Errno) {
	t.Helper()
	y, e := apply(t, z, del, add)
	if e != want || !isZero(y) {
		t.Errorf("Apply to %s of %s and %s: %s, %d; want %d", told(z.All()...), told(del...), told(add...), told(y.All()...), e, want)
	}
}

// checkModel tells the error of Apply.
func checkModel(t *testing.T, z zone.Zone, del, add []api.RR) api.Errno {
	t.Helper()
	want, e := modelApply(z, del, add)
	if e != api.OK {
		checkError(t, z, del, add, e)
	} else {
		checkApply(t, z, del, add, want.All())
	}
	return e
}

func TestTheRecordsOfTheseTests(t *testing.T) {
	if !rrset.Is(ordered) || !rrset.Is(small) {
		t.Error("the records are no sets")
	}
	makeZone(t, apex, ordered)
	for _, r := range slices.Concat(ordered, list(fresh), elsewhere) {
		if !record.Right(r) {
			t.Errorf("%s is not valid", told(r))
		}
	}
	for _, r := range append(slices.Clone(ordered), fresh) {
		for _, s := range twins(r) {
			if !record.Right(s) || !record.One(r, s) || s == r {
				t.Errorf("%s is not valid or no twin of %s", told(s), told(r))
			}
		}
		for _, s := range variants(r) {
			if modelHas(ordered, s) {
				t.Errorf("%s is among the records", told(s))
			}
		}
	}
	for _, r := range notNamed {
		if name.Right(r.Name) || record.Right(r) || record.One(r, r) {
			t.Errorf("%s is valid or equal to itself", told(r))
		}
	}
	others := slices.Concat(ordered, list(fresh), elsewhere)
	for i, r := range named {
		if record.Right(r) || slices.ContainsFunc(slices.Concat(others, named[:i]), func(s api.RR) bool { return record.One(r, s) }) {
			t.Errorf("%s is valid or equal to another one", told(r))
		}
	}
}

// P16.1

func TestDeletedAndAdded(t *testing.T) {
	x, y := address, fresh
	z := makeZone(t, apex, append(slices.Clone(small), x))
	checkBoth(t, z, z, nil, nil)
	checkBoth(t, z, makeZone(t, apex, list(x, soaOfA, nsOfA)), nil, nil)
	checkBoth(t, z, makeZone(t, apex, small), list(x), nil)
	checkBoth(t, z, makeZone(t, apex, append(slices.Clone(small), x, y)), nil, list(y))
	checkBoth(t, z, makeZone(t, apex, append(slices.Clone(small), y)), list(x), list(y))
	checkBoth(t, makeZone(t, apex, small), makeZone(t, apex, ordered), nil, modelMissing(ordered, small))
}

func TestOneRecordMoreOrLess(t *testing.T) {
	z := makeZone(t, apex, ordered)
	for i, r := range ordered {
		if r == soaOfA {
			continue // without it there is no zone
		}
		checkBoth(t, z, makeZone(t, apex, less(ordered, i)), list(r), nil)
		for j := range i {
			if ordered[j] != soaOfA && !(ordered[j] == nsOfA && i == j+1) { // one of the two NS records stays
				checkBoth(t, z, makeZone(t, apex, less(less(ordered, i), j)), list(ordered[j], r), nil)
				checkBoth(t, makeZone(t, apex, less(ordered, j)), makeZone(t, apex, less(ordered, i)), list(r), list(ordered[j]))
			}
		}
	}
}

// A record that is equal, but not the same, is another one: also the SOA.
func TestEqualRecordsThatAreNotTheSame(t *testing.T) {
	z := makeZone(t, apex, ordered)
	for i, r := range ordered {
		if len(twins(r)) < 3 {
			t.Errorf("%s has too few twins", told(r))
		}
		for _, s := range twins(r) {
			checkBoth(t, z, makeZone(t, apex, instead(ordered, i, s)), list(r), list(s))
		}
	}
	all := slices.Clone(ordered)
	for i, r := range all {
		all[i] = twins(r)[0]
	}
	checkBoth(t, z, makeZone(t, apex, all), ordered, all)
}

// Records with another name, type or data are no equal ones; what is deleted and what is added stand at other places.
func TestOneFieldDiffers(t *testing.T) {
	z := makeZone(t, apex, append(slices.Clone(ordered), fresh))
	for _, r := range append(slices.Clone(ordered), fresh) {
		for _, s := range variants(r) {
			y, e := zone.New(apex, append(slices.Clone(ordered), s))
			if e == api.OK {
				del, add := modelOf(z, y)
				checkBoth(t, z, y, del, add)
				if len(del) == 0 || diff.Same(z, y) {
					t.Errorf("%s is no other record", told(s))
				}
			}
		}
	}
	q := fresh
	for _, s := range list(rr("\x01g\x01a\x00", q.Type, in, q.TTL, q.Data), rr(q.Name, 300, in, q.TTL, q.Data), rr(q.Name, q.Type, in, q.TTL+1, q.Data), rr(q.Name, q.Type, in, q.TTL, "\x00\x0b\x01m\x00"), rr(swap(q.Name), q.Type, in, q.TTL, q.Data)) {
		checkBoth(t, z, makeZone(t, apex, append(slices.Clone(ordered), s)), list(q), list(s))
	}
}

func TestTheSoa(t *testing.T) {
	z := makeZone(t, apex, ordered)
	for _, n := range []uint32{0, 1, 0x41424343, 0x41424345, 1 << 31, math.MaxUint32} {
		y := z.WithSerial(n)
		next, _ := y.Soa()
		checkBoth(t, z, y, list(soaOfA), list(next))
		checkApply(t, z, list(soaOfA), list(next), y.All())
	}
	checkBoth(t, z, z.WithSerial(0x41424344), nil, nil)
	checkBoth(t, z, z.WithSerial(9).WithSerial(0x41424344), nil, nil)
}

// The lists are in the order of the zones, however these were made.
func TestTheOrderOfADifference(t *testing.T) {
	random := rand.New(rand.NewSource(1))
	first := list(soaOfA, nsOfA)
	last := list(nsOfA, twins(soaOfA)[0])
	for i := range 26 {
		r := rr("\x01"+string(byte('a'+i))+apex, txt, in, i, "\x01x")
		if i%3 != 0 {
			first = append(first, r)
		}
		r.TTL += i % 2
		if i%3 != 1 {
			last = append(last, r)
		}
	}
	for range 20 {
		x, y := makeZone(t, apex, shuffled(random, first)), makeZone(t, apex, shuffled(random, last))
		del, add := modelOf(x, y)
		checkBoth(t, x, y, del, add)
		if !rrset.Is(del) || !rrset.Is(add) || len(del) != 14 || len(add) != 14 {
			t.Errorf("deleted %s, added %s", told(del...), told(add...))
		}
	}
}

func TestZonesWithOtherApexes(t *testing.T) {
	lower, capital := makeZone(t, apex, ordered), makeZone(t, upper, ordered)
	checkBoth(t, lower, capital, nil, nil) // no record differs, but the apex does
	checkSame(t, lower, capital, false)
	checkBoth(t, capital, capital, nil, nil)
	checkBoth(t, capital, makeZone(t, apex, less(ordered, 0)), ordered[:1], nil)
	// A zone above it has some of the same records.
	top := rr(root, soa, in, 5, root+root+numbers)
	l := list(rr(root, ns, in, 5, root), top, nsOfA, rr(swap(address.Name), a, in, 5, "abcd"), ordered[18], ordered[10])
	above := makeZone(t, root, l)
	del, add := modelOf(above, lower)
	checkBoth(t, above, lower, del, add)
	if len(del) != 2 || len(add) != len(ordered)-3 {
		t.Errorf("deleted %s, added %s", told(del...), told(add...))
	}
	// Another zone has none of them.
	beside := makeZone(t, "\x01b\x00", list(rr("\x01b\x00", soa, in, 7, soaOfA.Data), rr("\x01B\x00", ns, in, 5, nsOfA.Data)))
	checkBoth(t, beside, lower, beside.All(), ordered)
}

func TestSame(t *testing.T) {
	random := rand.New(rand.NewSource(2))
	z := makeZone(t, apex, ordered)
	checkSame(t, z, z, true)
	for range 20 {
		checkSame(t, z, makeZone(t, apex, shuffled(random, slices.Concat(ordered, ordered))), true)
	}
	checkSame(t, z, makeZone(t, upper, ordered), false)
	checkSame(t, z, makeZone(t, apex, small), false)
	checkSame(t, z, makeZone(t, apex, append(slices.Clone(ordered), fresh)), false)
	checkSame(t, z, z.WithSerial(1), false)
	for i, r := range ordered {
		for _, s := range append(twins(r), variants(r)...) {
			if y, e := zone.New(apex, instead(ordered, i, s)); e == api.OK {
				checkSame(t, z, y, false)
				checkSame(t, y, y, true)
			}
		}
	}
}

// P16.2

func TestApply(t *testing.T) {
	z := makeZone(t, apex, ordered)
	x9, y := address, address
	x9.TTL, y.Data = 9, "efgh"
	at := slices.Index(ordered, address)
	checkApply(t, z, list(address), nil, less(ordered, at))
	checkApply(t, z, nil, list(y), with(ordered, at+1, y))
	checkApply(t, z, list(address), list(y), instead(ordered, at, y))
	checkApply(t, z, list(address), list(x9), instead(ordered, at, x9))
	checkApply(t, z, list(address), list(y, x9), with(instead(ordered, at, x9), at+1, y))
	checkApply(t, z, list(address), list(address), ordered)
	checkApply(t, z, modelMissing(ordered, small), nil, small)
	checkApply(t, makeZone(t, apex, small), nil, modelMissing(ordered, small), ordered)
	checkApply(t, z, ordered, ordered, ordered)
	checkApply(t, z, reversed(ordered), list(soaOfA, fresh, nsOfA), list(nsOfA, soaOfA, fresh))
	for i, r := range ordered {
		checkApply(t, z, list(r), list(r), ordered)
		if r != soaOfA {
			checkApply(t, z, list(r), nil, less(ordered, i))
			checkApply(t, makeZone(t, apex, less(ordered, i)), nil, list(r), ordered)
		}
	}
}

func TestEmptyLists(t *testing.T) {
	for _, n := range []string{apex, upper} {
		z := makeZone(t, n, ordered)
		for _, del := range [][]api.RR{nil, {}} {
			for _, add := range [][]api.RR{nil, {}} {
				y, e := diff.Apply(z, del, add)
				if e != api.OK || !diff.Same(y, z) {
					t.Errorf("Apply of two empty lists: %s, %d", told(y.All()...), e)
				}
				checkZone(t, y, n, ordered)
			}
		}
	}
}

// The result keeps the spelling of the apex, whatever its records are called.
func TestTheApexOfTheResult(t *testing.T) {
	deep := "\x02Bb\x01A\x00"
	l := list(rr(swap(deep), ns, in, 5, root), rr(deep, soa, in, 7, root+root+numbers))
	for _, n := range []string{deep, swap(deep), "\x02bb\x01a\x00", "\x02BB\x01A\x00"} {
		z := makeZone(t, n, l)
		r := rr("\x01x\x02bB\x01a\x00", a, in, 5, "abcd")
		checkApply(t, z, nil, list(r), append(slices.Clone(l), r))
		s := twins(l[1])[1]
		checkApply(t, z, l[1:], list(s), list(l[0], s))
		checkError(t, z, nil, list(fresh), api.ErrApex)
	}
	y := rr(root, ns, in, 5, root)
	x := rr(root, soa, in, 5, root+root+numbers)
	checkApply(t, makeZone(t, root, list(x, y)), nil, list(outside, address), list(y, x, address, outside))
}

func TestDeletedRecordsThatTheZoneHasNot(t *testing.T) {
	z := makeZone(t, apex, ordered)
	wrong := slices.Concat(list(fresh), twins(fresh), notNamed, named, elsewhere)
	for _, r := range ordered {
		wrong = append(wrong, variants(r)...)
		wrong = append(wrong, twins(r)...)
	}
	others := list(ordered[1], ordered[8], ordered[15])
	for _, r := range wrong {
		checkError(t, z, list(r), nil, api.ErrGap)
		checkError(t, z, list(r), list(fresh), api.ErrGap)
		checkError(t, z, list(r), list(r), api.ErrGap)
		checkError(t, z, list(r, r), nil, api.ErrGap)
		for i := range len(others) + 1 {
			checkError(t, z, with(others, i, r), nil, api.ErrGap)
		}
		checkError(t, z, append(slices.Clone(ordered), r), ordered, api.ErrGap)
		checkError(t, z, with(reversed(ordered), 0, r), small, api.ErrGap)
	}
	for i, r := range ordered {
		for _, s := range twins(r) {
			checkError(t, z, list(s), list(r), api.ErrGap)
			checkError(t, z, list(s, r), list(r), api.ErrGap)
			checkError(t, z, list(r, s), list(s), api.ErrGap)
			checkError(t, z, instead(ordered, i, s), ordered, api.ErrGap)
			checkApply(t, makeZone(t, apex, instead(ordered, i, s)), list(s), list(r), ordered)
		}
	}
}

func TestARecordIsDeletedTwice(t *testing.T) {
	z := makeZone(t, apex, ordered)
	for i, r := range ordered {
		s := ordered[(i+7)%len(ordered)]
		checkError(t, z, list(r, r), nil, api.ErrGap)
		checkError(t, z, list(r, r), list(r), api.ErrGap)
		checkError(t, z, list(r, r), list(r, r), api.ErrGap)
		checkError(t, z, list(r, s, r), list(s), api.ErrGap)
		checkError(t, z, list(s, r, r), list(s), api.ErrGap)
		checkError(t, z, list(r, s, s, r), nil, api.ErrGap)
		checkError(t, z, list(r, r, r), nil, api.ErrGap)
		checkError(t, z, with(ordered, 0, r), ordered, api.ErrGap)
		checkError(t, z, with(ordered, len(ordered), r), ordered, api.ErrGap)
		// As many elements as the zone has records, but one of them twice.
		checkError(t, z, instead(ordered, i, s), ordered, api.ErrGap)
	}
}

func TestAddedRecordsThatAreEqualToRemainingOnes(t *testing.T) {
	z := makeZone(t, apex, ordered)
	for i, r := range ordered {
		other := ordered[(i+5)%len(ordered)]
		same := append(twins(r), r)
		for _, ttl := range []int{-1, api.MaxTTL + 1, math.MinInt, math.MaxInt} {
			s := r
			s.TTL = ttl
			same = append(same, s) // equal all the same, although it is not valid
		}
		for _, s := range same {
			checkError(t, z, nil, list(s), api.ErrGap)
			checkError(t, z, nil, list(fresh, s), api.ErrGap)
			checkError(t, z, nil, list(s, fresh), api.ErrGap)
			checkError(t, z, list(other), list(s), api.ErrGap)
			checkError(t, z, list(other), list(other, s), api.ErrGap)
			checkError(t, z, less(ordered, i), append(less(ordered, i), s), api.ErrGap)
			if record.Right(s) {
				checkApply(t, z, list(r), list(s), instead(ordered, i, s))
				checkApply(t, z, list(r), list(fresh, s), modelSet(t, append(instead(ordered, i, s), fresh)))
			} else {
				checkError(t, z, list(r), list(s), api.ErrForm)
				checkError(t, z, list(r), list(r, s), api.ErrGap)
			}
		}
	}
}

// modelSet is the set of a zone that is made of l.
func modelSet(t *testing.T, l []api.RR) []api.RR {
	t.Helper()
	return makeZone(t, apex, l).All()
}

func TestAddedRecordsThatAreEqualToEarlierOnes(t *testing.T) {
	z := makeZone(t, apex, small)
	others := list(alias, rr("\x01e\x01a\x00", a, in, 5, "abcd"), rr("\x01g\x01a\x00", a, in, 5, "abcd"), address)
	for _, r := range list(fresh, rr("\x01f\x01a\x00", a, in, 5, "abcd"), ordered[3], ordered[7], ordered[16], rr(apex, 127, in, 5, "")) {
		checkApply(t, z, nil, list(r), modelSet(t, append(slices.Clone(small), r)))
		checkApply(t, z, nil, append(slices.Clone(others), r), modelSet(t, slices.Concat(small, others, list(r))))
		for _, s := range append(twins(r), r) {
			checkError(t, z, nil, list(r, s), api.ErrGap)
			checkError(t, z, nil, list(s, r), api.ErrGap)
			checkError(t, z, nil, list(r, r, s), api.ErrGap)
			for i := range len(others) + 1 {
				for j := range i + 1 {
					checkError(t, z, nil, with(with(others, i, r), j, s), api.ErrGap)
				}
			}
		}
	}
	// The SOA and an alias would be the only one of their name, if the last one counted.
	for _, r := range list(soaOfA, nsOfA) {
		for _, s := range append(twins(r), r) {
			checkError(t, z, list(r), list(r, s), api.ErrGap)
			checkError(t, z, small, append(slices.Clone(small), s), api.ErrGap)
		}
	}
	for _, s := range twins(alias) {
		checkError(t, z, nil, list(alias, s), api.ErrGap)
	}
}

// A record that is not valid may be equal to another one all the same; one without a name is not.
func TestAddedRecordsThatAreNotValid(t *testing.T) {
	z := makeZone(t, apex, ordered)
	for _, r := range slices.Concat(notNamed, named) {
		checkError(t, z, nil, list(r), api.ErrForm)
		checkError(t, z, nil, list(fresh, r), api.ErrForm)
		checkError(t, z, nil, list(r, fresh), api.ErrForm)
		checkError(t, z, ordered, append(slices.Clone(ordered), r), api.ErrForm)
		checkError(t, z, list(soaOfA), list(r), api.ErrForm)
		checkError(t, z, nil, list(outside, r), api.ErrForm)
		checkError(t, z, nil, list(r, fresh, fresh), api.ErrGap)
		checkError(t, z, nil, list(fresh, r, twins(fresh)[0]), api.ErrGap)
		checkError(t, z, nil, list(r, address), api.ErrGap)
	}
	for _, r := range notNamed {
		checkError(t, z, nil, list(r, r), api.ErrForm)
		checkError(t, z, nil, list(r, r, r, fresh, r), api.ErrForm)
	}
	for _, r := range named {
		s := r
		s.Name, s.TTL = swap(r.Name), 9
		checkError(t, z, nil, list(r, r), api.ErrGap)
		checkError(t, z, nil, list(r, s), api.ErrGap)
		checkError(t, z, nil, list(s, fresh, r), api.ErrGap)
		checkError(t, z, nil, list(notNamed[3], s, notNamed[3], r, notNamed[0]), api.ErrGap)
	}
	checkError(t, z, nil, notNamed, api.ErrForm)
	checkError(t, z, nil, named, api.ErrForm)
	checkError(t, z, nil, slices.Concat(notNamed, named, elsewhere), api.ErrForm)
}

// Records without a name have no place in an order, and may not hide the others from each other.
func TestEqualRecordsAmongManyWithoutAName(t *testing.T) {
	random := rand.New(rand.NewSource(3))
	z := makeZone(t, apex, ordered)
	for range 300 {
		l := []api.RR{}
		for i := range 1 + random.Intn(100) {
			l = append(l, rr(fmt.Sprintf("\x04f%03d\x01a\x00", i), a, in, 5, "abcd"))
			for random.Intn(2) == 0 {
				l = append(l, notNamed[random.Intn(len(notNamed))])
			}
		}
		l = append(l, notNamed[0])
		checkError(t, z, nil, shuffled(random, l), api.ErrForm)
		r := l[random.Intn(len(l))]
		if !name.Right(r.Name) {
			r = l[0]
		}
		checkError(t, z, nil, shuffled(random, append(slices.Clone(l), twins(r)[0])), api.ErrGap)
		checkError(t, z, nil, shuffled(random, append(slices.Clone(l), ordered[random.Intn(len(ordered))])), api.ErrGap)
		checkError(t, z, l, nil, api.ErrGap)
	}
}

// second is an SOA record that is not equal to that of A.
var second = rr(apex, soa, in, 7, root+root+numbers)

// The result is not a zone.
func TestTheErrorsOfNew(t *testing.T) {
	z := makeZone(t, apex, ordered)
	below, above := soaOfA, soaOfA
	below.Name, above.Name = "\x01x\x01a\x00", root
	servers := ordered[2:4]
	for _, w := range []struct{ del, add []api.RR }{
		{list(soaOfA), nil},
		{list(soaOfA), list(below)},
		{list(soaOfA), list(above)},
		{list(soaOfA), list(soaOfA, second)},
		{list(soaOfA), list(second, below)},
		{nil, list(second)},
		{nil, list(below)},
		{servers, nil},
		{servers, list(rr("\x01x\x01a\x00", ns, in, 5, root))},
		{ordered, nil},
		{ordered, list(nsOfA)},
		{ordered, list(soaOfA)},
		{nil, list(rr(address.Name, cname, in, 5, root))},
		{nil, list(rr(swap(alias.Name), a, in, 5, "abcd"))},
		{nil, list(rr(swap(alias.Name), cname, in, 5, root))},
		{list(alias), list(alias, rr(alias.Name, cname, in, 5, root))},
		{nil, list(rr("\x01f\x01a\x00", cname, in, 5, root), fresh)},
		{nil, list(rr(apex, cname, in, 5, root))},
	} {
		checkError(t, z, w.del, w.add, api.ErrApex)
		checkError(t, z, reversed(w.del), reversed(w.add), api.ErrApex)
		checkError(t, z, w.del, append(slices.Clone(w.add), named[0]), api.ErrForm)
	}
	for _, r := range elsewhere {
		checkError(t, z, nil, list(r), api.ErrApex)
		checkError(t, z, nil, list(fresh, r), api.ErrApex)
		checkError(t, z, nil, list(r, fresh), api.ErrApex)
		checkError(t, z, list(address), list(r), api.ErrApex)
		checkError(t, z, nil, list(r, r), api.ErrGap)
	}
	checkError(t, z, nil, elsewhere, api.ErrApex)
	// What would be no zone in between is one at the end.
	i := slices.Index(ordered, soaOfA)
	checkApply(t, z, list(soaOfA), list(second), instead(ordered, i, second))
	checkApply(t, z, servers, servers[1:], less(ordered, 2))
	checkApply(t, z, list(alias), list(rr(alias.Name, cname, in, 5, root)), instead(ordered, slices.Index(ordered, alias), rr(alias.Name, cname, in, 5, root)))
}

// gaps are differences of ordered that are none, because of del, of add, or of both.
var gaps = []struct{ del, add []api.RR }{
	{list(fresh), nil},
	{list(ordered[1], ordered[1]), nil},
	{list(twins(address)[0]), nil},
	{list(notNamed[3]), nil},
	{nil, list(address)},
	{nil, list(twins(address)[0])},
	{nil, list(fresh, fresh)},
	{nil, list(fresh, twins(fresh)[1])},
	{list(fresh), list(address)},
	{list(named[0]), list(fresh, fresh)},
}

func TestAGapComesFirst(t *testing.T) {
	z := makeZone(t, apex, ordered)
	more := []struct{ del, add []api.RR }{
		{nil, nil}, {list(soaOfA), nil}, {ordered[2:4], nil}, {nil, list(second)}, {nil, list(outside)}, {nil, list(named[0])}, {nil, list(notNamed[3])}, {nil, list(elsewhere[0])},
		{list(soaOfA), list(named[0], outside)}, {ordered[2:5], list(notNamed[0], elsewhere[0])},
	}
	for _, w := range gaps {
		for _, m := range more {
			checkError(t, z, slices.Concat(w.del, m.del), slices.Concat(w.add, m.add), api.ErrGap)
			checkError(t, z, slices.Concat(m.del, w.del), slices.Concat(m.add, w.add), api.ErrGap)
		}
	}
}

func TestAllShortDifferences(t *testing.T) {
	z := makeZone(t, upper, append(slices.Clone(small), address, alias))
	dels := list(soaOfA, nsOfA, address, alias, fresh, twins(address)[0], twins(soaOfA)[1], notNamed[3], named[12])
	adds := list(
		soaOfA, nsOfA, address, alias, fresh, twins(address)[0], twins(soaOfA)[3], twins(alias)[1], second,
		rr("\x01C\x01a\x00", cname, in, 5, root), rr("\x01C\x01a\x00", a, in, 5, "abcd"), notNamed[3], named[12], rr(address.Name, a, in, -1, "abcd"), outside,
	)
	counts := map[api.Errno]int{}
	for _, del := range shortLists(dels) {
		for _, add := range shortLists(adds) {
			counts[checkModel(t, z, del, add)]++
		}
	}
	for _, e := range []api.Errno{api.OK, api.ErrForm, api.ErrGap, api.ErrApex} {
		if counts[e] < 100 {
			t.Errorf("only %d differences of %v had the error %d", counts[e], counts, e)
		}
	}
}

// shortLists are all lists of at most two of the records.
func shortLists(l []api.RR) [][]api.RR {
	lists := [][]api.RR{nil}
	for _, r := range l {
		lists = append(lists, list(r))
		for _, s := range l {
			lists = append(lists, list(r, s))
		}
	}
	return lists
}

// anyRecord has few names and data, so that equal records are frequent; it may be one that no zone a. has.
func anyRecord(random *rand.Rand) api.RR {
	r := rr("\x01"+string("xXyY"[random.Intn(4)])+apex, []int{ns, txt, 300}[random.Intn(3)], in, random.Intn(2), "\x01"+string("xX"[random.Intn(2)])+root)
	if r.Type == txt {
		r.Data = r.Data[:2]
	}
	switch random.Intn(60) {
	case 0:
		r.TTL = -1
	case 1:
		r.Name = r.Name[1:]
	case 2:
		r.Data = ""
	case 3:
		r.Name = outside.Name
	case 4:
		r.Type = cname
	}
	return r
}

func anyRecords(random *rand.Rand, most int) []api.RR {
	l := []api.RR{}
	for range random.Intn(most + 1) {
		l = append(l, anyRecord(random))
	}
	return l
}

// anyZone tries until the records are a zone.
func anyZone(random *rand.Rand) zone.Zone {
	for {
		top := slices.Clone(small)
		for i, r := range top {
			top[i] = append(twins(r), r, r, r)[random.Intn(len(twins(r))+3)]
		}
		if z, e := zone.New(apex, shuffled(random, append(top, anyRecords(random, 12)...))); e == api.OK {
			return z
		}
	}
}

func TestRandomDifferences(t *testing.T) {
	random := rand.New(rand.NewSource(4))
	counts := map[api.Errno]int{}
	for range 20000 {
		z := anyZone(random)
		del := slices.DeleteFunc(z.All(), func(api.RR) bool { return random.Intn(3) > 0 })
		if random.Intn(4) == 0 {
			del = append(del, anyRecords(random, 1)...)
		}
		add := anyRecords(random, 4)
		for _, r := range del {
			if r.Type == soa || random.Intn(2) == 0 {
				add = append(add, r)
			}
		}
		counts[checkModel(t, z, shuffled(random, del), shuffled(random, add))]++
	}
	for _, e := range []api.Errno{api.OK, api.ErrForm, api.ErrGap, api.ErrApex} {
		if counts[e] < 100 {
			t.Errorf("only %d differences of %v had the error %d", counts[e], counts, e)
		}
	}
}

// P16.3

// checkConsequences holds the difference of two zones with the same apex against the model, and applies it and the exchanged one.
func checkConsequences(t *testing.T, random *rand.Rand, x, y zone.Zone) {
	t.Helper()
	wantDel, wantAdd := modelOf(x, y)
	checkBoth(t, x, y, wantDel, wantAdd)
	checkSame(t, x, y, modelIsSame(x, y))
	del, add := diff.Of(x, y)
	last := checkApply(t, x, del, add, y.All())
	first := checkApply(t, y, add, del, x.All())
	checkSame(t, last, y, true)
	checkSame(t, first, x, true)
	checkApply(t, x, shuffled(random, del), shuffled(random, add), y.All())
	checkApply(t, last, shuffled(random, add), shuffled(random, del), x.All())
	if len(del)+len(add) == 0 {
		checkApply(t, last, del, add, y.All())
	} else {
		checkError(t, last, del, add, api.ErrGap)
		checkError(t, x, add, del, api.ErrGap)
	}
}

// All zones that an SOA record and some of a few other records make, most of which are equal to another one.
func TestDifferencesOfAllSmallZones(t *testing.T) {
	random := rand.New(rand.NewSource(5))
	some := list(address, twins(address)[0], twins(address)[1], fresh, twins(fresh)[3], ordered[3], nsOfA, twins(nsOfA)[2], rr(alias.Name, a, in, 5, "abcd"))
	zones := []zone.Zone{}
	for bits := range 1 << len(some) {
		for _, top := range list(soaOfA, second) {
			l := list(top)
			for i, r := range some {
				if bits>>i&1 != 0 {
					l = append(l, r)
				}
			}
			if z, e := zone.New(apex, l); e == api.OK && len(z.All()) == len(l) {
				zones = append(zones, z)
			}
		}
	}
	if len(zones) != 2*4*3*5*2 { // two SOA records; one of three equal addresses, or none; one of two equal records, or none; at least one server; one more, or none
		t.Errorf("there are %d zones", len(zones))
	}
	for _, x := range zones {
		for _, y := range zones {
			del, add := modelOf(x, y)
			checkOf(t, x, y, del, add)
			checkApply(t, x, del, add, y.All())
			checkSame(t, x, y, modelIsSame(x, y))
		}
		checkConsequences(t, random, x, zones[random.Intn(len(zones))])
	}
}

func TestDifferencesOfRandomZones(t *testing.T) {
	random := rand.New(rand.NewSource(6))
	empty := 0
	for range 3000 {
		x, y := anyZone(random), anyZone(random)
		if random.Intn(10) == 0 {
			y = makeZone(t, apex, shuffled(random, x.All()))
			empty++
		}
		checkConsequences(t, random, x, y)
	}
	if empty < 100 {
		t.Errorf("only %d differences were empty", empty)
	}
}

// One difference after another leads from the first zone to the last one, and back.
func TestDifferencesOneAfterAnother(t *testing.T) {
	random := rand.New(rand.NewSource(7))
	zones := []zone.Zone{makeZone(t, apex, ordered)}
	for range 100 {
		zones = append(zones, anyZone(random))
	}
	z := zones[0]
	for i, y := range zones[1:] {
		del, add := diff.Of(zones[i], y)
		z = checkApply(t, z, del, add, y.All())
	}
	for i := len(zones) - 1; i > 0; i-- {
		del, add := diff.Of(zones[i], zones[i-1])
		z = checkApply(t, z, del, add, zones[i-1].All())
	}
	checkSame(t, z, zones[0], true)
}

// Of zones whose apexes differ in case alone, the difference gives the records of the other one with its own apex.
func TestDifferencesOfApexesInAnotherCase(t *testing.T) {
	x, y := makeZone(t, apex, ordered), makeZone(t, upper, append(slices.Clone(small), fresh))
	del, add := diff.Of(x, y)
	z := checkApply(t, x, del, add, y.All())
	checkSame(t, z, y, false)
	checkSame(t, z, makeZone(t, apex, y.All()), true)
}

// Great zones

// many are an NS, a SOA and more records of a., in order; the numbers of those come from the third one on.
func many(size int) []api.RR {
	l := slices.Clone(small)
	for i := len(small); i < size; i++ {
		l = append(l, rr(fmt.Sprintf("\x06%06x", i>>2)+apex, a, in, 5, "abc"+string(byte('A'+i&3))))
	}
	return l
}

func TestGreatZones(t *testing.T) {
	random := rand.New(rand.NewSource(8))
	l := many(api.MaxZone)
	x := makeZone(t, apex, l)
	k := slices.Clone(l)
	for i := 2; i < len(k); i++ {
		k[i].TTL = 6
	}
	y := makeZone(t, apex, k)
	checkBoth(t, x, x, nil, nil)
	checkBoth(t, x, y, l[2:], k[2:])
	checkApply(t, x, shuffled(random, l[2:]), shuffled(random, k[2:]), k)
	checkError(t, x, shuffled(random, append(l[2:len(l)-1:len(l)-1], l[2])), k[2:], api.ErrGap)
	checkError(t, x, shuffled(random, l[3:]), shuffled(random, k[2:]), api.ErrGap)
	for _, i := range []int{2, len(l) / 2, len(l) - 1} {
		checkBoth(t, x, makeZone(t, apex, less(l, i)), l[i:i+1], nil)
		checkBoth(t, x, makeZone(t, apex, instead(l, i, k[i])), l[i:i+1], k[i:i+1])
		checkApply(t, x, l[i:i+1], k[i:i+1], instead(l, i, k[i]))
	}
}

func TestTooManyRecords(t *testing.T) {
	l := many(api.MaxZone + 2)
	most, next, last := l[:api.MaxZone], l[api.MaxZone], l[api.MaxZone+1]
	z := makeZone(t, apex, most)
	checkError(t, z, nil, list(next), api.ErrLong)
	checkError(t, z, most[7:8], list(last, next), api.ErrLong)
	checkError(t, z, nil, list(outside), api.ErrLong)
	checkError(t, z, list(soaOfA), list(next, last), api.ErrLong)
	checkError(t, z, nil, list(next, named[0]), api.ErrForm)
	checkError(t, z, nil, list(next, notNamed[0], last), api.ErrForm)
	checkError(t, z, nil, list(next, last, next), api.ErrGap)
	checkError(t, z, nil, list(next, most[7]), api.ErrGap)
	checkError(t, z, list(next), list(next), api.ErrGap)
	checkError(t, z, most[7:8], list(outside), api.ErrApex)
	checkApply(t, z, most[7:8], list(next), append(less(most, 7), next))
	checkApply(t, z, most[len(most)-1:], list(last), instead(most, len(most)-1, last))
	checkApply(t, z, most[2:], l[2:4], l[:4])
}

// R5 and R7

func TestCallsDoNotChangeEarlierResults(t *testing.T) {
	random := rand.New(rand.NewSource(9))
	kept := []given{}
	keep := func(l []api.RR) []api.RR {
		kept = append(kept, given{l, l[:cap(l)], slices.Clone(l[:cap(l)])})
		return l
	}
	zones, sets := []zone.Zone{anyZone(random)}, [][]api.RR{}
	for i := range 100 {
		x, y := zones[random.Intn(i+1)], anyZone(random)
		del, add := diff.Of(x, y)
		keep(del)
		keep(add)
		diff.Same(x, y)
		z, e := diff.Apply(x, del, add)
		if e != api.OK {
			t.Fatalf("Apply to %s of %s and %s: %d", told(x.All()...), told(del...), told(add...), e)
		}
		diff.Apply(z, del, add)
		diff.Apply(z, add, del)
		zones, sets = append(zones, z), append(sets, z.All())
	}
	for _, g := range kept {
		g.check(t)
	}
	for i, g := range kept {
		spoil(g.l)
		for _, h := range kept[i+1:] {
			h.check(t)
		}
	}
	for i, set := range sets {
		checkZone(t, zones[i+1], apex, set)
	}
}
