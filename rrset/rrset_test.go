package rrset_test

import (
	"fmt"
	"math"
	"math/rand"
	"slices"
	"strings"
	"testing"

	"beadroll/api"
	"beadroll/record"
	"beadroll/rrset"
)

const (
	a        = 1
	ns       = 2
	soa      = 6
	mx       = 15
	txt      = 16
	srv      = 33
	in       = 1
	none     = 254
	anyClass = 255
	maxTTL   = 2147483647
	noTTL    = 77777
	numbers  = "ABCDEFGHIJKLMNOPQRST"
)

var (
	// foreign stands in the spare capacity of what is handed in, and scribble is written over what is returned.
	foreign  = rr("\x07foreign\x00", 9, 9, noTTL, "foreign")
	scribble = rr("\x08scribble\x00", 8, 8, noTTL, "scribble")
)

// ordered is a set in which each step of the order decides somewhere, and in which equal data or names are spelled in several ways.
var ordered = []api.RR{
	rr("\x00", txt, in, 5, "\x01z"),
	rr("\x01A\x00", a, in, 5, "ABCD"),
	rr("\x01a\x00", a, in, 5, "abcd"),
	rr("\x01a\x00", a, none, 0, ""),
	rr("\x01A\x00", a, none, 0, "abcd"),
	rr("\x01a\x00", a, anyClass, 0, ""),
	rr("\x01a\x00", a, anyClass, 0, "ab"),
	rr("\x01a\x00", ns, in, maxTTL, "\x01A\x00"),
	rr("\x01a\x00", ns, in, 6, "\x01b\x01A\x00"),
	rr("\x01A\x00", ns, 3, 6, "\x01A"),
	rr("\x01a\x00", soa, in, 7, "\x01M\x00\x01r\x00"+numbers),
	rr("\x01a\x00", 255, anyClass, 0, ""),
	rr("\x01a\x00", 256, in, 0, ""),
	rr("\x01*\x01a\x00", mx, in, 5, "\x00\x0a\x01m\x00"),
	rr("\x01X\x01a\x00", txt, in, 5, "\x01A"),
	rr("\x01x\x01a\x00", txt, in, 5, "\x01a"),
	rr("\x01y\x01x\x01a\x00", a, in, 5, "\x00\x00\x00\x00"),
	rr("\x02aa\x00", srv, in, 5, "ABCDEF\x01S\x00"),
	rr("\x02aa\x00", srv, in, 5, "abcdef\x01S\x00"),
	rr("\x01B\x00", a, in, 5, "\xff\xff\xff\xff"),
	rr("\x01b\x00", 65535, 65535, 5, "\xff"),
}

// wrongNames are strings that are not names.
var wrongNames = []string{"", "\x01", "\x01a", "a", "a.", "\x00\x00", "\x01a\x00\x00", "\x01a\xc0\x00", "\xc0\x00", "\x40" + strings.Repeat("a", 64) + "\x00", strings.Repeat("\x01a", 128) + "\x00"}

// wrong are records that are not valid.
var wrong = []api.RR{
	{},
	rr("", a, in, 5, "abcd"),
	rr("\x01a", a, in, 5, "abcd"),
	rr("b.", a, in, 5, "abcd"),
	rr("\x01a\x00\x00", ns, in, 5, "\x01A\x00"),
	rr(strings.Repeat("\x01a", 128)+"\x00", a, in, 5, "abcd"),
	rr("\x01a\x00", -1, in, 5, "abcd"),
	rr("\x01a\x00", math.MaxInt, in, 5, "abcd"),
	rr("\x01a\x00", a, math.MinInt, 5, "abcd"),
	rr("\x01a\x00", a, 65536, 5, "abcd"),
	rr("\x01a\x00", a, in, -1, "abcd"),
	rr("\x01a\x00", a, in, math.MaxInt, "abcd"),
	rr("\x01a\x00", a, in, 5, ""),
	rr("\x01a\x00", ns, in, 5, "\x01A"),
	rr("\x01a\x00", ns, none, 5, "\x01A\xc0\x00"),
}

// tooLong is not valid either, because of its 65536 bytes; it takes long to fold.
var tooLong = rr("\x01a\x00", txt, in, 5, strings.Repeat("\x00", 65536))

func rr(n string, typ, class, ttl int, data string) api.RR {
	return api.RR{Name: n, Type: typ, Class: class, TTL: ttl, Data: data}
}

// swap exchanges capital and small letters.
func swap(s string) string {
	b := []byte(s)
	for i, c := range b {
		if 'a' <= c|0x20 && c|0x20 <= 'z' {
			b[i] ^= 0x20
		}
	}
	return string(b)
}

// swapData exchanges the letters in the names of valid data.
func swapData(r api.RR) string {
	switch {
	case !record.Right(rr("\x00", r.Type, in, 0, r.Data)): // not valid for the type
	case r.Type == ns:
		return swap(r.Data)
	case r.Type == mx:
		return r.Data[:2] + swap(r.Data[2:])
	case r.Type == srv:
		return r.Data[:6] + swap(r.Data[6:])
	case r.Type == soa:
		return swap(r.Data[:len(r.Data)-20]) + r.Data[len(r.Data)-20:]
	}
	return r.Data
}

// twins are records that are equal to r: with another TTL, with another case of the name, with one of the data, and with several of these.
func twins(r api.RR) []api.RR {
	l := []api.RR{}
	for bits := range 8 {
		s := r
		if bits&1 != 0 {
			s.TTL = r.TTL ^ 1
		}
		if bits&2 != 0 {
			s.Name = swap(r.Name)
		}
		if bits&4 != 0 {
			s.Data = swapData(r)
		}
		if s != r && !slices.Contains(l, s) {
			l = append(l, s)
		}
	}
	return l
}

func brief(s string) string {
	if len(s) > 40 {
		return fmt.Sprintf("%q.. (%d bytes)", s[:40], len(s))
	}
	return fmt.Sprintf("%q", s)
}

func told(l ...api.RR) string {
	s := fmt.Sprintf("%d:", len(l))
	for _, r := range l[:min(len(l), 12)] {
		s += fmt.Sprintf(" {%s %d %d TTL %d %s}", brief(r.Name), r.Type, r.Class, r.TTL, brief(r.Data))
	}
	return s
}

// given is a copy of a list that is handed in, with spare capacity.
type given struct {
	l, all, before []api.RR
}

func give(l []api.RR) given {
	all := append(slices.Clone(l), foreign, foreign, foreign)
	return given{all[:len(l)], all, slices.Clone(all)}
}

// checkKept writes over a result, and then checks that what was handed in is unchanged.
func checkKept(t *testing.T, result []api.RR, args ...given) {
	t.Helper()
	for i := range result[:cap(result)] {
		result[:cap(result)][i] = scribble
	}
	for _, g := range args {
		if !slices.Equal(g.all, g.before) {
			t.Errorf("the call or its result changed what was handed in: %s; before %s", told(g.all...), told(g.before...))
		}
	}
}

func checkList(t *testing.T, call string, got, want []api.RR) {
	t.Helper()
	if !slices.Equal(got, want) {
		t.Errorf("%s = %s; want %s", call, told(got...), told(want...))
	}
}

func checkIs(t *testing.T, l []api.RR, want bool) {
	t.Helper()
	g := give(l)
	if got := rrset.Is(g.l); got != want {
		t.Errorf("Is(%s) = %v", told(l...), got)
	}
	checkKept(t, nil, g)
}

func checkOf(t *testing.T, l, want []api.RR) {
	t.Helper()
	g := give(l)
	got := rrset.Of(g.l)
	checkList(t, "Of("+told(l...)+")", got, want)
	checkIs(t, got, true)
	checkKept(t, got, g)
}

// checkAlike checks both directions.
func checkAlike(t *testing.T, l, k []api.RR, want bool) {
	t.Helper()
	g, h := give(l), give(k)
	if got, back := rrset.Alike(g.l, h.l), rrset.Alike(h.l, g.l); got != want || back != want {
		t.Errorf("Alike(%s, %s) = %v, and back %v", told(l...), told(k...), got, back)
	}
	checkKept(t, nil, g, h)
}

func checkPut(t *testing.T, l []api.RR, r api.RR, want []api.RR, wantOther bool) {
	t.Helper()
	g := give(l)
	got, other := rrset.Put(g.l, r)
	call := "Put(" + told(l...) + ", " + told(r) + ")"
	checkList(t, call, got, want)
	if other != wantOther {
		t.Errorf("%s differs: %v", call, other)
	}
	checkKept(t, got, g)
}

func checkDrop(t *testing.T, l []api.RR, r api.RR, want []api.RR, wantThere bool) {
	t.Helper()
	g := give(l)
	got, there := rrset.Drop(g.l, r)
	call := "Drop(" + told(l...) + ", " + told(r) + ")"
	checkList(t, call, got, want)
	if there != wantThere {
		t.Errorf("%s was there: %v", call, there)
	}
	checkKept(t, got, g)
}

func checkFind(t *testing.T, l []api.RR, r, want api.RR, wantThere bool) {
	t.Helper()
	g := give(l)
	if got, there := rrset.Find(g.l, r); got != want || there != wantThere {
		t.Errorf("Find(%s, %s) = %s, %v", told(l...), told(r), told(got), there)
	}
	checkKept(t, nil, g)
}

func checkAt(t *testing.T, l []api.RR, n string, want []api.RR) {
	t.Helper()
	g := give(l)
	got := rrset.At(g.l, n)
	checkList(t, "At("+told(l...)+", "+brief(n)+")", got, want)
	checkKept(t, got, g)
}

func checkTyped(t *testing.T, l []api.RR, typ int, want []api.RR) {
	t.Helper()
	g := give(l)
	got := rrset.Typed(g.l, typ)
	checkList(t, fmt.Sprintf("Typed(%s, %d)", told(l...), typ), got, want)
	checkKept(t, got, g)
}

func checkWithout(t *testing.T, l, k, want []api.RR) {
	t.Helper()
	g, h := give(l), give(k)
	got := rrset.Without(g.l, h.l)
	checkList(t, "Without("+told(l...)+", "+told(k...)+")", got, want)
	checkKept(t, got, g, h)
}

// reversed, swapped and repeated are other lists of the same records.
func reversed(l []api.RR) []api.RR {
	k := slices.Clone(l)
	slices.Reverse(k)
	return k
}

func swapped(l []api.RR, i, j int) []api.RR {
	k := slices.Clone(l)
	k[i], k[j] = k[j], k[i]
	return k
}

func shuffled(random *rand.Rand, l []api.RR) []api.RR {
	k := slices.Clone(l)
	random.Shuffle(len(k), func(i, j int) { k[i], k[j] = k[j], k[i] })
	return k
}

// with has r at a place of l, and instead has it in the place of the one there.
func with(l []api.RR, i int, r ...api.RR) []api.RR {
	return slices.Insert(slices.Clone(l), i, r...)
}

func instead(l []api.RR, i int, r api.RR) []api.RR {
	k := slices.Clone(l)
	k[i] = r
	return k
}

func less(l []api.RR, i int) []api.RR {
	return slices.Delete(slices.Clone(l), i, i+1)
}

// lists are all lists of at most size records of a pool.
func lists(pool []api.RR, size int) [][]api.RR {
	all := [][]api.RR{nil}
	for from := 0; size > 0; size-- {
		longest := all[from:]
		from = len(all)
		for _, l := range longest {
			for _, r := range pool {
				all = append(all, with(l, len(l), r))
			}
		}
	}
	return all
}

// subsets are all lists that leave out some records of a set.
func subsets(set []api.RR) [][]api.RR {
	all := [][]api.RR{}
	for bits := range 1 << len(set) {
		l := []api.RR{}
		for i, r := range set {
			if bits>>i&1 == 1 {
				l = append(l, r)
			}
		}
		all = append(all, l)
	}
	return all
}

// some are a few records of the set, in order, and all their twins.
var some = []api.RR{ordered[1], ordered[5], ordered[7], ordered[13]}

func someAndTwins() []api.RR {
	l := slices.Clone(some)
	for _, r := range some {
		l = append(l, twins(r)...)
	}
	return l
}

func TestTheRecordsOfTheseTests(t *testing.T) {
	for i, r := range ordered {
		if !record.Right(r) || i > 0 && record.Compare(ordered[i-1], r) != -1 {
			t.Errorf("the record %d, %s, is not valid or not in order", i, told(r))
		}
		for _, s := range twins(r) {
			if !record.Right(s) || !record.One(r, s) || s == r {
				t.Errorf("%s is not valid or no twin of %s", told(s), told(r))
			}
		}
	}
	for _, r := range append(wrong, tooLong) {
		if record.Right(r) {
			t.Errorf("%s is valid", told(r))
		}
	}
}

// P13.1

func TestIsOfNoRecordAndOfOne(t *testing.T) {
	if !rrset.Is(nil) || !rrset.Is([]api.RR{}) {
		t.Error("no record is no set")
	}
	for _, r := range ordered {
		checkIs(t, []api.RR{r}, true)
	}
}

func TestIsOfRecordsInOrder(t *testing.T) {
	for from := range ordered {
		for to := from; to <= len(ordered); to++ {
			checkIs(t, ordered[from:to], true)
		}
	}
	for i := range ordered {
		checkIs(t, less(ordered, i), true)
		for j := range i {
			checkIs(t, []api.RR{ordered[j], ordered[i]}, true)
			checkIs(t, []api.RR{ordered[i], ordered[j]}, false)
		}
	}
}

func TestIsOfTwoRecordsInTheWrongOrder(t *testing.T) {
	for i := range ordered {
		for j := range i {
			checkIs(t, swapped(ordered, i, j), false)
		}
	}
	checkIs(t, reversed(ordered), false)
}

func TestIsOfTwoEqualRecords(t *testing.T) {
	for i, r := range ordered {
		for _, s := range append(twins(r), r) {
			checkIs(t, []api.RR{r, s}, false)
			checkIs(t, []api.RR{s, r}, false)
			checkIs(t, with(ordered, i, s), false)
			checkIs(t, with(ordered, i+1, s), false)
			checkIs(t, instead(ordered, i, s), true)
			for j := range len(ordered) + 1 {
				checkIs(t, with(ordered, j, s), false)
			}
		}
	}
}

func TestOfNoRecord(t *testing.T) {
	if len(rrset.Of(nil)) != 0 || len(rrset.Of([]api.RR{})) != 0 {
		t.Error("the set of no records has records")
	}
	checkOf(t, nil, nil)
}

func TestOfASetIsTheSet(t *testing.T) {
	for from := range ordered {
		for to := from; to <= len(ordered); to++ {
			checkOf(t, ordered[from:to], ordered[from:to])
		}
	}
}

func TestOfRecordsInAnotherOrder(t *testing.T) {
	checkOf(t, reversed(ordered), ordered)
	for i := range ordered {
		checkOf(t, slices.Concat(ordered[i:], ordered[:i]), ordered)
		for j := range i {
			checkOf(t, swapped(ordered, i, j), ordered)
		}
	}
	random := rand.New(rand.NewSource(1))
	for range 100 {
		checkOf(t, shuffled(random, ordered), ordered)
	}
}

func TestOfRecordsThatAreRepeated(t *testing.T) {
	repeated := []api.RR{}
	for _, r := range ordered {
		repeated = append(repeated, r, r)
	}
	checkOf(t, repeated, ordered)
	checkOf(t, reversed(repeated), ordered)
	checkOf(t, slices.Concat(ordered, ordered), ordered)
	checkOf(t, slices.Concat(ordered, reversed(ordered), ordered), ordered)
	for _, r := range ordered {
		checkOf(t, slices.Repeat([]api.RR{r}, 50), []api.RR{r})
	}
}

// Of equal records the last one is left, wherever it stands.
func TestOfEqualRecordsIsTheLastOne(t *testing.T) {
	for i, r := range ordered {
		for _, s := range twins(r) {
			checkOf(t, []api.RR{r, s}, []api.RR{s})
			checkOf(t, []api.RR{s, r}, []api.RR{r})
			checkOf(t, []api.RR{r, s, r}, []api.RR{r})
			for j := range len(ordered) + 1 {
				if j <= i {
					checkOf(t, with(ordered, j, s), ordered)
					checkOf(t, with(reversed(ordered), len(ordered)-j, s), instead(ordered, i, s))
				} else {
					checkOf(t, with(ordered, j, s), instead(ordered, i, s))
					checkOf(t, with(reversed(ordered), len(ordered)-j, s), ordered)
				}
			}
		}
		all := append(twins(r), r)
		for j := range all {
			turned := slices.Concat(all[j:], all[:j])
			checkOf(t, turned, turned[len(turned)-1:])
			checkOf(t, slices.Concat(turned, ordered[:i], ordered[i+1:]), instead(ordered, i, turned[len(turned)-1]))
			checkOf(t, slices.Concat(reversed(ordered), turned), instead(ordered, i, turned[len(turned)-1]))
		}
	}
}

// So many records of one kind that a sort which is not stable would mix them.
func TestOfManyEqualRecords(t *testing.T) {
	random := rand.New(rand.NewSource(2))
	for _, size := range []int{10, 11, 12, 13, 20, 21, 40, 41, 100, 1000, 5000} {
		for range 3 {
			l := []api.RR{}
			for i := range size {
				r := some[random.Intn(len(some))]
				r.TTL = i
				l = append(l, r)
			}
			checkOf(t, l, modelOf(l))
		}
	}
}

func TestIsAndOfAllShortLists(t *testing.T) {
	pool := []api.RR{ordered[1], twins(ordered[1])[0], twins(ordered[1])[1], ordered[2], ordered[7], twins(ordered[7])[3]}
	for _, l := range lists(pool, 5) {
		checkIs(t, l, modelIs(l))
		checkOf(t, l, modelOf(l))
	}
}

func TestAlikeOfNoRecord(t *testing.T) {
	checkAlike(t, nil, nil, true)
	if !rrset.Alike(nil, []api.RR{}) || !rrset.Alike([]api.RR{}, nil) || !rrset.Alike([]api.RR{}, []api.RR{}) {
		t.Error("no record and no record are not alike")
	}
	checkAlike(t, nil, ordered, false)
	for _, r := range ordered {
		checkAlike(t, nil, []api.RR{r}, false)
		checkAlike(t, []api.RR{r}, []api.RR{r}, true)
	}
}

func TestAlikeOfTheSameRecordsInAnotherOrderAndRepeated(t *testing.T) {
	checkAlike(t, ordered, ordered, true)
	checkAlike(t, ordered, reversed(ordered), true)
	checkAlike(t, ordered, slices.Concat(ordered, reversed(ordered)), true)
	for i, r := range ordered {
		checkAlike(t, ordered, slices.Concat(ordered[i:], ordered[:i]), true)
		checkAlike(t, []api.RR{r}, slices.Repeat([]api.RR{r}, 30), true)
		for j := range len(ordered) + 1 {
			checkAlike(t, ordered, with(ordered, j, r), true)
			checkAlike(t, reversed(ordered), with(ordered, j, r, r, r), true)
		}
	}
	random := rand.New(rand.NewSource(3))
	for range 100 {
		checkAlike(t, shuffled(random, ordered), shuffled(random, slices.Concat(ordered, ordered)), true)
	}
}

func TestAlikeOfOneRecordMore(t *testing.T) {
	for i, r := range ordered {
		checkAlike(t, ordered, less(ordered, i), false)
		checkAlike(t, reversed(ordered), less(ordered, i), false)
		// As many records on either side.
		checkAlike(t, ordered, with(less(ordered, i), i, ordered[(i+1)%len(ordered)]), false)
		for j, s := range ordered {
			checkAlike(t, []api.RR{r}, []api.RR{s}, i == j)
			checkAlike(t, []api.RR{r, r}, []api.RR{r, s}, i == j)
			checkAlike(t, []api.RR{r, s}, []api.RR{s, r}, true)
		}
	}
}

func TestAlikeOfEqualRecords(t *testing.T) {
	for i, r := range ordered {
		for _, s := range twins(r) {
			alike := s.TTL == r.TTL
			checkAlike(t, []api.RR{r}, []api.RR{s}, alike)
			checkAlike(t, []api.RR{r, s}, []api.RR{s}, alike)
			checkAlike(t, []api.RR{r, s}, []api.RR{r}, alike)
			checkAlike(t, []api.RR{r, s}, []api.RR{s, r}, true)
			checkAlike(t, []api.RR{r, s, s}, []api.RR{s, r, r}, true)
			checkAlike(t, ordered, instead(ordered, i, s), alike)
			checkAlike(t, with(ordered, i, s), ordered, alike)
			checkAlike(t, with(ordered, i, s), instead(ordered, i, s), alike)
			checkAlike(t, with(ordered, i, s), with(reversed(ordered), i, s), true)
		}
	}
}

// The TTLs are exchanged: each side has both records and both TTLs.
func TestAlikeOfExchangedTTLs(t *testing.T) {
	for i, r := range ordered {
		for j, s := range ordered {
			if i == j {
				continue
			}
			r.TTL, s.TTL = 1, 2
			x, y := r, s
			x.TTL, y.TTL = 2, 1
			checkAlike(t, []api.RR{r, s}, []api.RR{x, y}, false)
			checkAlike(t, []api.RR{r, s, x}, []api.RR{x, y, r}, false)
			checkAlike(t, []api.RR{r, s, x, y}, []api.RR{y, x, s, r}, true)
		}
	}
}

func TestAlikeOfAllShortLists(t *testing.T) {
	r := ordered[7]
	other := r
	other.TTL = 3
	all := lists([]api.RR{r, other, twins(r)[1], ordered[8]}, 3)
	for _, l := range all {
		for _, k := range all {
			checkAlike(t, l, k, modelAlike(l, k))
		}
	}
}

// P13.2

func TestPutAtEachPlace(t *testing.T) {
	for size := range len(ordered) + 1 {
		for from := range len(ordered) - size + 1 {
			l := ordered[from : from+size]
			for i, r := range l {
				checkPut(t, less(l, i), r, l, true)
			}
		}
	}
	for i, r := range ordered {
		checkPut(t, nil, r, []api.RR{r}, true)
		checkPut(t, ordered[:i], r, ordered[:i+1], true)
		checkPut(t, ordered[i+1:], r, ordered[i:], true)
	}
	if l, other := rrset.Put([]api.RR{}, ordered[3]); !slices.Equal(l, ordered[3:4]) || !other {
		t.Error(told(l...), other)
	}
}

func TestPutOfAnEqualRecord(t *testing.T) {
	for size := range len(ordered) {
		l := ordered[:size]
		for i, r := range l {
			checkPut(t, l, r, l, false)
			for _, s := range twins(r) {
				checkPut(t, l, s, instead(l, i, s), true)
				checkPut(t, instead(l, i, s), r, l, true)
				checkPut(t, instead(l, i, s), s, instead(l, i, s), false)
			}
		}
	}
}

// Each field alone makes a difference, and every difference between TTLs does.
func TestPutReportsEachDifference(t *testing.T) {
	r := rr("\x01a\x00", ns, in, 5, "\x01b\x00")
	for _, s := range []api.RR{
		rr("\x01A\x00", ns, in, 5, "\x01b\x00"),
		rr("\x01a\x00", ns, in, 5, "\x01B\x00"),
		rr("\x01a\x00", ns, in, 0, "\x01b\x00"),
		rr("\x01a\x00", ns, in, 4, "\x01b\x00"),
		rr("\x01a\x00", ns, in, 6, "\x01b\x00"),
		rr("\x01a\x00", ns, in, 5+256, "\x01b\x00"),
		rr("\x01a\x00", ns, in, maxTTL, "\x01b\x00"),
	} {
		checkPut(t, []api.RR{r}, s, []api.RR{s}, true)
		checkPut(t, []api.RR{s}, r, []api.RR{r}, true)
		checkPut(t, []api.RR{s}, s, []api.RR{s}, false)
	}
	for _, s := range []api.RR{
		rr("\x01b\x00", ns, in, 5, "\x01b\x00"),
		rr("\x01a\x00", mx, in, 5, "\x00\x00\x01b\x00"),
		rr("\x01a\x00", ns, none, 5, "\x01b\x00"),
		rr("\x01a\x00", ns, in, 5, "\x01c\x00"),
	} {
		checkPut(t, []api.RR{r}, s, []api.RR{r, s}, true)
		checkPut(t, []api.RR{s}, r, []api.RR{r, s}, true)
	}
}

func TestDropAndFindOfWhatIsThere(t *testing.T) {
	for size := range len(ordered) + 1 {
		for from := range len(ordered) - size + 1 {
			l := ordered[from : from+size]
			for i, r := range l {
				for _, s := range append(twins(r), r) {
					checkDrop(t, l, s, less(l, i), true)
					checkFind(t, l, s, r, true)
				}
			}
		}
	}
}

func TestDropAndFindOfWhatIsNotThere(t *testing.T) {
	for i, r := range ordered {
		for _, s := range append(twins(r), r) {
			for _, l := range [][]api.RR{nil, {}, ordered[:i], ordered[i+1:], less(ordered, i)} {
				checkDrop(t, l, s, l, false)
				checkFind(t, l, s, api.RR{}, false)
			}
		}
	}
}

// A record is looked for among those that differ from it in one field only.
func TestDropAndFindOfWhatDiffersInOneField(t *testing.T) {
	r := rr("\x01a\x00", ns, in, 5, "\x01b\x00")
	for _, s := range []api.RR{
		rr("\x01b\x00", ns, in, 5, "\x01b\x00"),
		rr("\x00", ns, in, 5, "\x01b\x00"),
		rr("\x01a\x01a\x00", ns, in, 5, "\x01b\x00"),
		rr("\x01a\x00", 5, in, 5, "\x01b\x00"),
		rr("\x01a\x00", 12, in, 5, "\x01b\x00"),
		rr("\x01a\x00", 256+ns, in, 5, "\x01b\x00"),
		rr("\x01a\x00", ns, 0, 5, "\x01b\x00"),
		rr("\x01a\x00", ns, none, 5, "\x01b\x00"),
		rr("\x01a\x00", ns, 256+in, 5, "\x01b\x00"),
		rr("\x01a\x00", ns, in, 5, "\x01a\x00"),
		rr("\x01a\x00", ns, in, 5, "\x01b\x01b\x00"),
		rr("\x01a\x00", ns, in, 5, "\x00"),
	} {
		checkDrop(t, []api.RR{s}, r, []api.RR{s}, false)
		checkFind(t, []api.RR{s}, r, api.RR{}, false)
		set := modelOf([]api.RR{r, s})
		checkDrop(t, set, r, []api.RR{s}, true)
		checkDrop(t, set, s, []api.RR{r}, true)
		checkFind(t, set, r, r, true)
		checkFind(t, set, s, s, true)
	}
}

func TestPutDropAndFindInAllSubsets(t *testing.T) {
	for _, l := range subsets(some) {
		for _, r := range append(someAndTwins(), ordered...) {
			want, ok := modelPut(l, r)
			checkPut(t, l, r, want, ok)
			want, ok = modelDrop(l, r)
			checkDrop(t, l, r, want, ok)
			s, ok := modelFind(l, r)
			checkFind(t, l, r, s, ok)
		}
	}
}

// P13.3

func TestAtEachName(t *testing.T) {
	checkAt(t, ordered, "\x00", ordered[0:1])
	checkAt(t, ordered, "\x01a\x00", ordered[1:13])
	checkAt(t, ordered, "\x01*\x01a\x00", ordered[13:14])
	checkAt(t, ordered, "\x01x\x01a\x00", ordered[14:16])
	checkAt(t, ordered, "\x01y\x01x\x01a\x00", ordered[16:17])
	checkAt(t, ordered, "\x02aa\x00", ordered[17:19])
	checkAt(t, ordered, "\x01b\x00", ordered[19:21])
	checkAt(t, nil, "\x00", nil)
	checkAt(t, []api.RR{}, "\x01a\x00", nil)
	for from := range ordered {
		for to := from; to <= len(ordered); to++ {
			for _, r := range ordered {
				checkAt(t, ordered[from:to], r.Name, modelAt(ordered[from:to], r.Name))
				checkAt(t, ordered[from:to], swap(r.Name), modelAt(ordered[from:to], r.Name))
			}
		}
	}
}

func TestAtANameThatNoRecordHas(t *testing.T) {
	for _, n := range []string{
		"\x01\x00\x00",
		"\x01`\x00",
		"\x01z\x00",
		"\x01b\x01b\x00",
		"\x01a\x01b\x00",
		"\x01a\x01a\x00",
		"\x01)\x01a\x00",
		"\x01+\x01a\x00",
		"\x01w\x01a\x00",
		"\x01y\x01a\x00",
		"\x01x\x01x\x01a\x00",
		"\x01z\x01x\x01a\x00",
		"\x01z\x01y\x01x\x01a\x00",
		"\x02ab\x00",
		"\x03aaa\x00",
		"\x01\xe1\x00",
		"\x01!\x00",
	} {
		checkAt(t, ordered, n, nil)
	}
	// Names above and under the one that has records.
	l := []api.RR{rr("\x01b\x01a\x00", a, in, 5, "abcd")}
	for _, n := range []string{"\x00", "\x01a\x00", "\x01b\x00", "\x01c\x01b\x01a\x00", "\x01b\x01b\x01a\x00", "\x01*\x01a\x00", "\x01*\x01b\x01a\x00"} {
		checkAt(t, l, n, nil)
	}
	checkAt(t, l, "\x01B\x01A\x00", l)
}

func TestAtWhatIsNoName(t *testing.T) {
	for _, n := range wrongNames {
		checkAt(t, ordered, n, nil)
		checkAt(t, ordered[:1], n, nil)
		checkAt(t, nil, n, nil)
	}
}

func TestTyped(t *testing.T) {
	checkTyped(t, ordered, txt, []api.RR{ordered[0], ordered[14], ordered[15]})
	checkTyped(t, ordered, ns, ordered[7:10])
	checkTyped(t, ordered, 65535, ordered[20:])
	checkTyped(t, ordered, 255, ordered[11:12])
	checkTyped(t, ordered, 256, ordered[12:13])
	checkTyped(t, ordered, 0, nil)
	checkTyped(t, nil, a, nil)
	checkTyped(t, []api.RR{}, 0, nil)
	same := modelOf([]api.RR{rr("\x00", a, in, 5, "abcd"), rr("\x01a\x00", a, in, 5, "abcd"), rr("\x00", a, none, 5, "")})
	checkTyped(t, same, a, same)
	checkTyped(t, []api.RR{rr("\x00", 0, in, 5, "")}, 0, []api.RR{rr("\x00", 0, in, 5, "")})
	for from := range ordered {
		for to := from; to <= len(ordered); to++ {
			for typ := range 40 {
				checkTyped(t, ordered[from:to], typ, modelTyped(ordered[from:to], typ))
			}
		}
	}
}

func TestTypedOfNumbersThatAreNoTypes(t *testing.T) {
	for _, typ := range []int{a, ns, 255, 256, 65535} {
		for _, other := range []int{-typ, ^typ, typ - 65536, typ + 65536, typ + 1<<32, typ - 1<<32, typ + math.MinInt, math.MaxInt - typ} {
			checkTyped(t, ordered, other, nil)
		}
	}
	for _, typ := range []int{-1, 65536, math.MinInt, math.MaxInt} {
		checkTyped(t, ordered, typ, nil)
	}
}

func TestWithoutAllNoneAndSome(t *testing.T) {
	checkWithout(t, nil, nil, nil)
	checkWithout(t, nil, ordered, nil)
	checkWithout(t, []api.RR{}, []api.RR{}, nil)
	checkWithout(t, ordered, nil, ordered)
	checkWithout(t, ordered, []api.RR{}, ordered)
	checkWithout(t, ordered, ordered, nil)
	checkWithout(t, ordered, reversed(ordered), nil)
	for i, r := range ordered {
		checkWithout(t, ordered, ordered[:i], ordered[i:])
		checkWithout(t, ordered, ordered[i:], ordered[:i])
		checkWithout(t, ordered, less(ordered, i), ordered[i:i+1])
		checkWithout(t, ordered, []api.RR{r}, less(ordered, i))
		checkWithout(t, ordered, []api.RR{r, r, r}, less(ordered, i))
		// What l lacks.
		checkWithout(t, ordered[:i], ordered[i:], ordered[:i])
		checkWithout(t, ordered[i:], ordered[:i], ordered[i:])
		checkWithout(t, less(ordered, i), []api.RR{r}, less(ordered, i))
		checkWithout(t, less(ordered, i), ordered, nil)
	}
}

func TestWithoutEqualRecords(t *testing.T) {
	for i, r := range ordered {
		for _, s := range twins(r) {
			checkWithout(t, ordered, []api.RR{s}, less(ordered, i))
			checkWithout(t, ordered, []api.RR{s, r}, less(ordered, i))
			checkWithout(t, []api.RR{r}, []api.RR{s}, nil)
			checkWithout(t, ordered, with(reversed(ordered[:i]), i, s), ordered[i+1:])
		}
		checkWithout(t, ordered, twins(r), less(ordered, i))
	}
}

// The records of k are in any order, and repeated.
func TestWithoutInAllSubsets(t *testing.T) {
	pool := append(slices.Clone(some), twins(some[0])[0], twins(some[2])[2], ordered[0])
	for _, l := range subsets(some) {
		for _, k := range lists(pool, 3) {
			checkWithout(t, l, k, modelWithout(l, k))
		}
	}
}

// P13.4

func TestWhatWasPutIsFoundAndWhatWasDroppedIsNot(t *testing.T) {
	for _, l := range append(subsets(some), ordered) {
		for _, r := range append(someAndTwins(), ordered...) {
			put, _ := rrset.Put(l, r)
			checkIs(t, put, true)
			checkFind(t, put, r, r, true)
			checkPut(t, put, r, put, false)
			for _, s := range twins(r) {
				checkFind(t, put, s, r, true)
			}
			dropped, there := rrset.Drop(put, r)
			if !there {
				t.Errorf("%s was put and not there", told(r))
			}
			checkIs(t, dropped, true)
			checkFind(t, dropped, r, api.RR{}, false)
			checkDrop(t, dropped, r, dropped, false)
			for _, s := range twins(r) {
				checkFind(t, dropped, s, api.RR{}, false)
				checkDrop(t, dropped, s, dropped, false)
			}
			left, _ := rrset.Drop(l, r)
			checkList(t, "Drop of what was put", dropped, left)
		}
	}
}

// anyRecord has few names and data, so that equal records are frequent.
func anyRecord(random *rand.Rand) api.RR {
	r := ordered[random.Intn(len(ordered))]
	r.Name = ordered[random.Intn(len(ordered))].Name
	for _, s := range twins(r)[:random.Intn(2)] {
		r = s
	}
	r.TTL = random.Intn(3)
	return r
}

func TestRandomCalls(t *testing.T) {
	random := rand.New(rand.NewSource(4))
	for range 10 {
		l := []api.RR{}
		for range 300 {
			r := anyRecord(random)
			want, other := modelPut(l, r)
			if random.Intn(3) == 0 {
				want, other = modelDrop(l, r)
				checkDrop(t, l, r, want, other)
			} else {
				checkPut(t, l, r, want, other)
			}
			l = want
			s := anyRecord(random)
			found, there := modelFind(l, s)
			checkFind(t, l, s, found, there)
			checkAt(t, l, s.Name, modelAt(l, s.Name))
			checkTyped(t, l, s.Type, modelTyped(l, s.Type))
		}
		k := []api.RR{}
		for range random.Intn(100) {
			k = append(k, anyRecord(random))
		}
		checkWithout(t, l, k, modelWithout(l, k))
		checkWithout(t, modelOf(k), shuffled(random, l), modelWithout(modelOf(k), l))
		checkOf(t, slices.Concat(k, l, k), modelOf(slices.Concat(k, l, k)))
		checkAlike(t, l, shuffled(random, l), true)
		checkAlike(t, k, l, modelAlike(k, l))
	}
}

func TestGreatSet(t *testing.T) {
	l := []api.RR{}
	for i := range 10000 {
		l = append(l, rr(fmt.Sprintf("\x05%05d\x01a\x00", i), a, in, i, "abcd"))
	}
	random := rand.New(rand.NewSource(5))
	k := shuffled(random, l)
	checkOf(t, k, l)
	checkOf(t, slices.Concat(k, k), l)
	checkAlike(t, k, l, true)
	checkAlike(t, k, l[1:], false)
	checkWithout(t, l, k[1:], k[:1])
	for _, i := range []int{0, 1, 4999, 5000, 5001, 9998, 9999} {
		r := l[i]
		r.TTL = 1 << 20
		checkPut(t, l, r, instead(l, i, r), true)
		checkPut(t, less(l, i), l[i], l, true)
		checkDrop(t, l, r, less(l, i), true)
		checkFind(t, l, r, l[i], true)
		checkFind(t, less(l, i), r, api.RR{}, false)
		checkAt(t, l, r.Name, l[i:i+1])
	}
}

// R1

func callAll(l, k []api.RR, r api.RR) {
	rrset.Is(l)
	rrset.Of(l)
	rrset.Put(l, r)
	rrset.Drop(l, r)
	rrset.Find(l, r)
	rrset.At(l, r.Name)
	rrset.Typed(l, r.Type)
	rrset.Without(l, k)
	rrset.Alike(l, k)
}

func TestListsThatAreNoSetsAndRecordsThatAreNotValid(t *testing.T) {
	pool := slices.Concat(wrong, ordered[:9], twins(ordered[7]))
	short := lists(pool, 2)
	for _, l := range short {
		for _, r := range pool {
			callAll(l, []api.RR{r}, r)
		}
	}
	random := rand.New(rand.NewSource(6))
	for range 1000 {
		l, k := []api.RR{}, []api.RR{}
		for range random.Intn(60) {
			l = append(l, pool[random.Intn(len(pool))])
		}
		for range random.Intn(60) {
			k = append(k, pool[random.Intn(len(pool))])
		}
		for range 5 {
			callAll(l, k, pool[random.Intn(len(pool))])
		}
	}
	callAll([]api.RR{tooLong, ordered[0], tooLong}, []api.RR{tooLong}, tooLong)
	callAll(slices.Concat(ordered, ordered), reversed(ordered), ordered[4])
	callAll(reversed(ordered), slices.Concat(ordered, ordered), ordered[4])
}

// R5 and R7

func TestCallsDoNotChangeEarlierResults(t *testing.T) {
	all := []given{}
	keep := func(l []api.RR) []api.RR {
		all = append(all, given{l, l[:cap(l)], slices.Clone(l[:cap(l)])})
		return l
	}
	l := keep(rrset.Of(reversed(ordered)))
	random := rand.New(rand.NewSource(7))
	for range 300 {
		r := anyRecord(random)
		k, _ := rrset.Put(l, r)
		keep(k)
		left, _ := rrset.Drop(l, r)
		keep(left)
		keep(rrset.At(l, r.Name))
		keep(rrset.Typed(k, r.Type))
		keep(rrset.Without(k, left))
		keep(rrset.Of(l))
		l = [][]api.RR{l, k, left}[random.Intn(3)]
	}
	checkKept(t, nil, all...)
	for i, g := range all {
		checkKept(t, g.l, all[i+1:]...)
	}
}
