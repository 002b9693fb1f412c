package zone_test

import (
	"fmt"
	"math"
	"math/rand"
	"slices"
	"strings"
	"testing"

	"beadroll/api"
	"beadroll/rdata"
	"beadroll/record"
	"beadroll/rrset"
	"beadroll/zone"
)

const (
	a     = 1
	ns    = 2
	cname = 5
	soa   = 6
	mx    = 15
	txt   = 16
	srv   = 33
	in    = 1

	root = "\x00"
	apex = "\x01a\x00"
	// numbers are the serial 41424344, and the four others.
	numbers = "ABCDEFGHIJKLMNOPQRST"
)

var (
	// foreign stands in the spare capacity of what is handed in, and scribble is written over what is returned.
	foreign  = rr("\x07foreign\x00", 9, 9, 77777, "foreign")
	scribble = rr("\x08scribble\x00", 8, 8, 77777, "scribble")

	soaOfA  = rr("\x01A\x00", soa, in, 7, "\x01M\x01a\x00\x01r\x00"+numbers)
	nsOfA   = rr("\x01a\x00", ns, in, 5, "\x01N\x01a\x00")
	address = rr("\x01x\x01a\x00", a, in, 5, "abcd")
	alias   = rr("\x01c\x01a\x00", cname, in, 5, "\x01x\x01A\x00")
)

// small is the least that the zone a. can be, and ordered is one with names at several depths, in several cases.
var small = []api.RR{nsOfA, soaOfA}

var ordered = []api.RR{
	rr("\x01A\x00", a, in, 5, "ABCD"),
	rr("\x01a\x00", a, in, 5, "abcd"),
	nsOfA,
	rr("\x01A\x00", ns, in, 2147483647, "\x01o\x00"),
	soaOfA,
	rr("\x01a\x00", 127, in, 0, ""),
	rr("\x01a\x00", 256, in, 0, ""),
	rr("\x01a\x00", 65535, in, 0, "ab"),
	rr("\x01*\x01a\x00", mx, in, 5, "\x00\x0a\x01M\x00"),
	rr("\x02bb\x01a\x00", ns, in, 5, "\x01n\x02bb\x01a\x00"),
	rr("\x01n\x02BB\x01a\x00", a, in, 5, "abcd"),
	alias,
	rr("\x01X\x01c\x01A\x00", a, in, 5, "abcd"),
	rr("\x01x\x01c\x01a\x00", txt, in, 5, "\x01A"),
	rr("\x01z\x01y\x01D\x01a\x00", a, in, 5, "\x00\x00\x00\x00"),
	rr("\x01\x00\x01z\x01y\x01d\x01a\x00", cname, in, 5, "\x00"),
	rr("\x01e\x01E\x01e\x01a\x00", a, in, 5, "abcd"),
	rr("\x01s\x01S\x01a\x00", srv, in, 5, "ABCDEF\x01S\x00"),
	rr("\x01v\x01w\x01s\x01a\x00", 40, in, 5, "v"),
	rr("\x01x\x01a\x00", a, in, 5, "abcd"),
	rr("\x01\xff\x01a\x00", 42, in, 5, "\xff"),
}

// wrongNames are strings that are not names.
var wrongNames = []string{"", "\x01", "\x01a", "a", "a.", "\x00\x00", "\x01a\x00\x00", "\x01a\xc0\x00", "\xc0\x00", "\x40" + strings.Repeat("a", 64) + "\x00", strings.Repeat("\x01a", 128) + "\x00"}

// wrong are records that are not valid; the first ones differ from a valid record only in the TTL.
var wrong = []api.RR{
	rr("\x01x\x01a\x00", a, in, -1, "abcd"),
	rr("\x01x\x01a\x00", a, in, 2147483648, "abcd"),
	rr("\x01a\x00", ns, in, math.MinInt, "\x01N\x01a\x00"),
	{},
	rr("", a, in, 5, "abcd"),
	rr("\x01x\x01a", a, in, 5, "abcd"),
	rr("x.a.", a, in, 5, "abcd"),
	rr("\x01x\x01a\x00\x00", a, in, 5, "abcd"),
	rr("\x01x\x01a\x00", -1, in, 5, "abcd"),
	rr("\x01x\x01a\x00", 65536, in, 5, "abcd"),
	rr("\x01x\x01a\x00", a, -1, 5, "abcd"),
	rr("\x01x\x01a\x00", a, 65536, 5, "abcd"),
	rr("\x01x\x01a\x00", a, in, 5, ""),
	rr("\x01x\x01a\x00", a, in, 5, "abcde"),
	rr("\x01x\x01a\x00", a, 254, 5, "abc"),
	rr("\x01a\x00", ns, in, 5, "\x01N\x01a"),
	rr("\x01a\x00", soa, in, 5, "\x01M\x00\x01r\x00"+numbers[1:]),
	rr("\x01x\x01a\x00", 300, in, 5, strings.Repeat("x", 65536)),
}

func rr(n string, typ, class, ttl int, data string) api.RR {
	return api.RR{Name: n, Type: typ, Class: class, TTL: ttl, Data: data}
}

// swap exchanges capital and small letters.
func swap(s string) string {
	b := []byte(s)
	for i, c := range b {
		if 'a' <= c|0x20 && c|0x20 <= 'z' {
			b[i] ^= 0x20
		}
	}
	return string(b)
}

// swapData exchanges the letters in the names of data.
func swapData(r api.RR) string {
	switch r.Type {
	case ns, cname:
		return swap(r.Data)
	case mx:
		return r.Data[:2] + swap(r.Data[2:])
	case srv:
		return r.Data[:6] + swap(r.Data[6:])
	case soa:
		return swap(r.Data[:len(r.Data)-20]) + r.Data[len(r.Data)-20:]
	}
	return r.Data
}

// twins are records that are equal to r: with another TTL, with another case of the name, with one of the data, and with several of these.
func twins(r api.RR) []api.RR {
	l := []api.RR{}
	for bits := range 8 {
		s := r
		if bits&1 != 0 {
			s.TTL = r.TTL ^ 1
		}
		if bits&2 != 0 {
			s.Name = swap(r.Name)
		}
		if bits&4 != 0 {
			s.Data = swapData(r)
		}
		if s != r && !slices.Contains(l, s) {
			l = append(l, s)
		}
	}
	return l
}

func brief(s string) string {
	if len(s) > 40 {
		return fmt.Sprintf("%q.. (%d bytes)", s[:40], len(s))
	}
	return fmt.Sprintf("%q", s)
}

func told(l ...api.RR) string {
	s := fmt.Sprintf("%d:", len(l))
	for _, r := range l[:min(len(l), 12)] {
		s += fmt.Sprintf(" {%s %d %d TTL %d %s}", brief(r.Name), r.Type, r.Class, r.TTL, brief(r.Data))
	}
	return s
}

// reversed, shuffled, with, instead and less are other lists of the same records, or almost the same.
func reversed(l []api.RR) []api.RR {
	k := slices.Clone(l)
	slices.Reverse(k)
	return k
}

func shuffled(random *rand.Rand, l []api.RR) []api.RR {
	k := slices.Clone(l)
	random.Shuffle(len(k), func(i, j int) { k[i], k[j] = k[j], k[i] })
	return k
}

func with(l []api.RR, i int, r ...api.RR) []api.RR {
	return slices.Insert(slices.Clone(l), i, r...)
}

func instead(l []api.RR, i int, r api.RR) []api.RR {
	k := slices.Clone(l)
	k[i] = r
	return k
}

func less(l []api.RR, i int) []api.RR {
	return slices.Delete(slices.Clone(l), i, i+1)
}

// spoil writes over a list that was returned, and what capacity it has.
func spoil(l []api.RR) {
	l = l[:cap(l)]
	for i := range l {
		l[i] = scribble
	}
}

// isZero reports whether z is as New returns it with an error.
func isZero(z zone.Zone) bool {
	r, parts := z.Soa()
	return z.Apex() == "" && len(z.All()) == 0 && r == api.RR{} && parts == rdata.SOA{} && len(z.Names()) == 0
}

// makeZone calls New and checks that the list is not changed, and that changing it afterwards does not matter.
func makeZone(t *testing.T, apex string, l []api.RR) (zone.Zone, api.Errno) {
	t.Helper()
	given := append(slices.Clone(l), foreign, foreign, foreign)
	before := slices.Clone(given)
	z, e := zone.New(apex, given[:len(l)])
	if !slices.Equal(given, before) {
		t.Errorf("New(%s, %s) made it %s", brief(apex), told(l...), told(given...))
	}
	spoil(given)
	return z, e
}

func checkNone(t *testing.T, apex string, l []api.RR, want api.Errno) {
	t.Helper()
	z, e := makeZone(t, apex, l)
	if e != want || !isZero(z) {
		t.Errorf("New(%s, %s) = %s, %d; want %d", brief(apex), told(l...), told(z.All()...), e, want)
	}
}

func mustZone(t *testing.T, apex string, l []api.RR) zone.Zone {
	t.Helper()
	z, e := makeZone(t, apex, l)
	if e != api.OK {
		t.Fatalf("New(%s, %s): %d", brief(apex), told(l...), e)
	}
	return z
}

func checkNew(t *testing.T, apex string, l, want []api.RR) zone.Zone {
	t.Helper()
	z := mustZone(t, apex, l)
	checkAll(t, z, want)
	if z.Apex() != apex {
		t.Errorf("the apex of New(%s, ..) is %s", brief(apex), brief(z.Apex()))
	}
	return z
}

// checkAll asks twice, and writes over the first answer.
func checkAll(t *testing.T, z zone.Zone, want []api.RR) {
	t.Helper()
	for range 2 {
		got := z.All()
		if !slices.Equal(got, want) {
			t.Errorf("All() = %s; want %s", told(got...), told(want...))
		}
		spoil(got)
	}
}

func checkSoa(t *testing.T, z zone.Zone, wantRecord api.RR, want rdata.SOA) {
	t.Helper()
	if r, parts := z.Soa(); r != wantRecord || parts != want {
		t.Errorf("Soa() = %s, %v; want %s, %v", told(r), parts, told(wantRecord), want)
	}
}

func checkNames(t *testing.T, z zone.Zone, want []string) {
	t.Helper()
	for range 2 {
		got := z.Names()
		if !slices.Equal(got, want) {
			t.Errorf("Names() = %q; want %q", got, want)
		}
		clear(got[:cap(got)])
	}
}

func checkAt(t *testing.T, z zone.Zone, n string, want []api.RR) {
	t.Helper()
	for range 2 {
		got := z.At(n)
		if !slices.Equal(got, want) {
			t.Errorf("At(%s) = %s; want %s", brief(n), told(got...), told(want...))
		}
		spoil(got)
	}
}

func checkSet(t *testing.T, z zone.Zone, n string, typ int, want []api.RR) {
	t.Helper()
	for range 2 {
		got := z.Set(n, typ)
		if !slices.Equal(got, want) {
			t.Errorf("Set(%s, %d) = %s; want %s", brief(n), typ, told(got...), told(want...))
		}
		spoil(got)
	}
}

func checkName(t *testing.T, z zone.Zone, n string, there, empty bool) {
	t.Helper()
	if got := z.There(n); got != there {
		t.Errorf("There(%s) = %v", brief(n), got)
	}
	if got := z.Empty(n); got != empty {
		t.Errorf("Empty(%s) = %v", brief(n), got)
	}
}

// namesAround are the names of records, those above and beside them, and some under them, each also in another case.
func namesAround(l []api.RR) []string {
	names := []string{root}
	for _, r := range l {
		for n := r.Name; n != root; n = n[1+int(n[0]):] {
			names = append(names, n)
			for _, label := range []string{"\x01a", "\x01*", "\x01z", "\x02zz", "\x01\x00", "\x01\xff"} {
				names = append(names, label+n, label+n[1+int(n[0]):])
			}
		}
	}
	for _, n := range names {
		names = append(names, swap(n))
	}
	slices.Sort(names)
	return slices.Compact(names)
}

// checkZone holds all that z tells against the model.
func checkZone(t *testing.T, z zone.Zone, apex string, set []api.RR) {
	t.Helper()
	if z.Apex() != apex {
		t.Errorf("the apex %s is %s", brief(apex), brief(z.Apex()))
	}
	checkAll(t, z, set)
	r, parts := modelSoa(set)
	checkSoa(t, z, r, parts)
	checkNames(t, z, modelNames(set))
	for _, n := range append(namesAround(set), wrongNames...) {
		checkAt(t, z, n, modelAt(set, n))
		checkName(t, z, n, len(modelAt(set, n)) > 0, modelEmpty(set, n))
		for _, typ := range []int{a, ns, cname, soa, txt, 255, 256} {
			checkSet(t, z, n, typ, modelTyped(set, n, typ))
		}
	}
	checkAll(t, z, set)
}

func TestTheRecordsOfTheseTests(t *testing.T) {
	if !rrset.Is(ordered) || !rrset.Is(small) {
		t.Error("the records are no sets")
	}
	for _, r := range ordered {
		if !record.Right(r) {
			t.Errorf("%s is not valid", told(r))
		}
		for _, s := range twins(r) {
			if !record.Right(s) || !record.One(r, s) || s == r {
				t.Errorf("%s is not valid or no twin of %s", told(s), told(r))
			}
		}
	}
	for _, r := range wrong {
		if record.Right(r) {
			t.Errorf("%s is valid", told(r))
		}
	}
}

// P14.1

func TestDataType(t *testing.T) {
	for typ, want := range map[int]bool{
		math.MinInt: false, -65536: false, -65535: false, -256: false, -41: false, -1: false, 0: false,
		1: true, 2: true, 40: true, 41: false, 42: true, 127: true, 128: false, 200: false, 251: false, 255: false,
		256: true, 297: true, 384: true, 65535: true,
		65536: false, 65537: false, 1 << 31: false, 1<<32 + 1: false, 1<<62 + 1: false, math.MaxInt: false,
	} {
		if got := zone.DataType(typ); got != want {
			t.Errorf("DataType(%d) = %v", typ, got)
		}
	}
	for typ := -200000; typ <= 200000; typ++ {
		if got := zone.DataType(typ); got != modelDataType(typ) {
			t.Errorf("DataType(%d) = %v", typ, got)
		}
	}
}

func TestTheLeastZone(t *testing.T) {
	checkNew(t, apex, small, small)
	checkNew(t, apex, reversed(small), small)
	checkNew(t, apex, ordered, ordered)
}

func TestTheApexIsNotAName(t *testing.T) {
	for _, n := range wrongNames {
		checkNone(t, n, small, api.ErrForm)
		checkNone(t, n, ordered, api.ErrForm)
		checkNone(t, n, nil, api.ErrForm)
		checkNone(t, n, []api.RR{address}, api.ErrForm)
		checkNone(t, n, []api.RR{wrong[0]}, api.ErrForm)
	}
}

func TestOneRecordIsNotValid(t *testing.T) {
	for _, r := range wrong {
		for i := range len(ordered) + 1 {
			checkNone(t, apex, with(ordered, i, r), api.ErrForm)
		}
		for i := range ordered {
			checkNone(t, apex, instead(ordered, i, r), api.ErrForm)
		}
		checkNone(t, apex, []api.RR{r}, api.ErrForm)
		checkNone(t, apex, with(small, 0, r), api.ErrForm)
		checkNone(t, apex, with(small, 1, r), api.ErrForm)
		checkNone(t, apex, with(small, 2, r), api.ErrForm)
	}
}

// The first records differ from a later, valid one only in the TTL, and would not be in the set.
func TestARecordThatIsNotValidIsReplaced(t *testing.T) {
	for _, r := range wrong[:3] {
		right := r
		right.TTL = 5
		checkNew(t, apex, with(small, 2, right), modelSet(with(small, 2, right)))
		checkNone(t, apex, with(small, 0, r, right), api.ErrForm)
		checkNone(t, apex, with(with(small, 2, right), 0, r), api.ErrForm)
		checkNone(t, apex, with(small, 2, right, r, right), api.ErrForm)
	}
}

func TestARecordIsNotValidAndTheZoneIsWrongAnyway(t *testing.T) {
	outside := rr("\x01b\x00", a, in, 5, "abcd")
	for _, r := range wrong {
		for _, l := range [][]api.RR{{soaOfA}, {nsOfA}, {soaOfA, nsOfA, outside}, {alias, address}} {
			for i := range len(l) + 1 {
				checkNone(t, apex, with(l, i, r), api.ErrForm)
			}
			checkNone(t, "\x01b\x00", with(l, 0, r), api.ErrForm)
		}
	}
}

func TestTheCaseOfTheApex(t *testing.T) {
	checkNew(t, "\x01A\x00", small, small)
	checkNew(t, "\x01A\x00", ordered, ordered)
	l := []api.RR{rr("\x02bB\x01A\x00", ns, in, 5, root), rr("\x02Bb\x01a\x00", soa, in, 5, root+root+numbers), rr("\x01x\x02BB\x01a\x00", a, in, 5, "abcd")}
	for _, n := range []string{"\x02bb\x01a\x00", "\x02BB\x01A\x00", "\x02bB\x01a\x00", "\x02Bb\x01A\x00"} {
		checkNew(t, n, l, l)
	}
}

func TestTheRootAsTheApex(t *testing.T) {
	l := []api.RR{rr(root, ns, in, 5, root), rr(root, soa, in, 5, root+root+numbers), rr("\x01a\x00", a, in, 5, "abcd"), rr("\x01x\x01a\x00", cname, in, 5, root), rr("\x01b\x00", ns, in, 5, root)}
	z := checkNew(t, root, l, l)
	checkZone(t, z, root, l)
	checkNone(t, root, ordered, api.ErrApex)
	checkNone(t, root, small, api.ErrApex)
	checkNone(t, apex, l, api.ErrApex)
}

// A name of 255 bytes has no name under it.
func TestALongApex(t *testing.T) {
	long := strings.Repeat("\x3f"+strings.Repeat("x", 63), 3) + "\x3d" + strings.Repeat("y", 61) + "\x00"
	l := []api.RR{rr(swap(long), ns, in, 5, long), rr(long, soa, in, 5, long+long+numbers)}
	checkZone(t, checkNew(t, long, l, l), long, l)
	checkNone(t, long[64:], l, api.ErrApex)
}

func TestRecordsInAnyOrder(t *testing.T) {
	checkNew(t, apex, reversed(ordered), ordered)
	random := rand.New(rand.NewSource(1))
	for range 200 {
		checkNew(t, apex, shuffled(random, ordered), ordered)
		checkNew(t, apex, shuffled(random, slices.Concat(ordered, ordered, ordered)), ordered)
	}
}

func TestRepeatedRecords(t *testing.T) {
	for i, r := range ordered {
		for j := range len(ordered) + 1 {
			checkNew(t, apex, with(ordered, j, r), ordered)
			checkNew(t, apex, with(reversed(ordered), j, r, r), ordered)
		}
		for j, s := range ordered[:i] {
			k := instead(instead(ordered, i, s), j, r)
			checkNew(t, apex, append(k, r, s), ordered)
		}
	}
}

func TestOfEqualRecordsTheLastOneCounts(t *testing.T) {
	for i, r := range ordered {
		for _, s := range twins(r) {
			checkNew(t, apex, with(ordered, 0, s), ordered)
			checkNew(t, apex, with(ordered, len(ordered), s), instead(ordered, i, s))
			checkNew(t, apex, with(reversed(ordered), len(ordered), s), instead(ordered, i, s))
			checkNew(t, apex, with(ordered, len(ordered), s, r), ordered)
			checkNew(t, apex, with(ordered, i, s), ordered)
			checkNew(t, apex, with(ordered, i+1, s), instead(ordered, i, s))
		}
	}
}

// many are a SOA, an NS and more records of a.; the numbers of those come from the third one on.
func many(size int) []api.RR {
	l := slices.Clone(small)
	for i := len(small); i < size; i++ {
		label := fmt.Sprintf("\x06%06x", i>>2)
		l = append(l, rr(label+apex, a, in, 5, "abc"+string(byte('A'+i&3))))
	}
	return l
}

func TestHowManyRecords(t *testing.T) {
	l := many(api.MaxZone + 1)
	most := l[:api.MaxZone]
	z := checkNew(t, apex, most, most)
	if !z.There(most[len(most)-1].Name) || !z.Empty(root) || len(z.Names()) != api.MaxZone/4+1 {
		t.Errorf("the zone of %d records has %d names", len(most), len(z.Names()))
	}
	checkNone(t, apex, l, api.ErrLong)
	checkNone(t, apex, reversed(l), api.ErrLong)
	// More records than are in their set.
	other := most[77]
	other.Name, other.TTL = swap(other.Name), 9
	checkNew(t, apex, append(slices.Clone(most), most[0], other), instead(most, 77, other))
	checkNew(t, apex, slices.Concat(most, most), most)
	checkNone(t, apex, slices.Concat(l, l), api.ErrLong)
}

func TestTooManyRecordsThatAreWrongOtherwise(t *testing.T) {
	l := many(api.MaxZone + 2)
	checkNone(t, "\x01b\x00", l, api.ErrLong)
	checkNone(t, apex, l[1:], api.ErrLong)
	checkNone(t, apex, less(l, 1), api.ErrLong)
	checkNone(t, apex, append(slices.Clone(l), alias, rr(alias.Name, a, in, 5, "abcd")), api.ErrLong)
	checkNone(t, apex, l[2:], api.ErrApex)
	checkNone(t, "\x01b\x00", l[2:], api.ErrApex)
	checkNone(t, "\x01b", l, api.ErrForm)
	for _, i := range []int{0, len(l) / 2, len(l)} {
		checkNone(t, apex, with(l, i, wrong[0]), api.ErrForm)
	}
	// So are records of another class, or outside of the zone: they count in the set.
	outside := []api.RR{}
	for i := range api.MaxZone {
		outside = append(outside, rr("\x01b\x00", 300, 3, 5, fmt.Sprintf("%06d", i)))
	}
	checkNone(t, apex, outside, api.ErrApex)
	checkNone(t, apex, append(outside, small...), api.ErrLong)
}

func TestNoRecord(t *testing.T) {
	checkNone(t, apex, nil, api.ErrApex)
	checkNone(t, root, nil, api.ErrApex)
	if z, e := zone.New(apex, []api.RR{}); e != api.ErrApex || !isZero(z) {
		t.Error(e)
	}
	if z, e := zone.New(apex, nil); e != api.ErrApex || !isZero(z) {
		t.Error(e)
	}
}

func TestTheSoaRecord(t *testing.T) {
	second := soaOfA
	second.Data = "\x01M\x01a\x00\x01r\x00" + numbers[1:] + "U"
	below := soaOfA
	below.Name = "\x01x\x01a\x00"
	above := soaOfA
	above.Name = root
	beside := soaOfA
	beside.Name = "\x01b\x00"
	checkNone(t, apex, []api.RR{nsOfA}, api.ErrApex)
	checkNone(t, apex, []api.RR{nsOfA, second, soaOfA}, api.ErrApex)
	checkNone(t, apex, []api.RR{nsOfA, second, soaOfA, second}, api.ErrApex)
	checkNone(t, apex, []api.RR{nsOfA, below}, api.ErrApex)
	checkNone(t, apex, []api.RR{nsOfA, below, soaOfA}, api.ErrApex)
	checkNone(t, apex, []api.RR{nsOfA, above}, api.ErrApex)
	checkNone(t, apex, []api.RR{nsOfA, above, soaOfA}, api.ErrApex)
	checkNone(t, apex, []api.RR{nsOfA, beside}, api.ErrApex)
	checkNew(t, apex, []api.RR{nsOfA, second}, []api.RR{nsOfA, second})
	for _, s := range twins(soaOfA) {
		checkNew(t, apex, []api.RR{nsOfA, soaOfA, s}, []api.RR{nsOfA, s})
	}
	at := slices.Index(ordered, soaOfA)
	checkNone(t, apex, less(ordered, at), api.ErrApex)
	checkNone(t, apex, instead(ordered, at, below), api.ErrApex)
	for _, r := range ordered {
		r.Type, r.Data = soa, second.Data
		checkNone(t, apex, with(ordered, 0, r), api.ErrApex)
	}
}

func TestTheNsRecords(t *testing.T) {
	below := nsOfA
	below.Name = "\x01x\x01a\x00"
	above := nsOfA
	above.Name = root
	second := nsOfA
	second.Data = "\x01b\x00"
	checkNone(t, apex, []api.RR{soaOfA}, api.ErrApex)
	checkNone(t, apex, []api.RR{soaOfA, below}, api.ErrApex)
	checkNone(t, apex, []api.RR{soaOfA, address, below}, api.ErrApex)
	checkNone(t, apex, []api.RR{soaOfA, above}, api.ErrApex)
	checkNew(t, apex, []api.RR{soaOfA, below, nsOfA}, []api.RR{nsOfA, soaOfA, below})
	checkNew(t, apex, []api.RR{soaOfA, nsOfA, second}, []api.RR{second, nsOfA, soaOfA})
	for _, r := range []api.RR{nsOfA, second} {
		r.Name = "\x01A\x00"
		checkNew(t, apex, []api.RR{r, soaOfA}, []api.RR{r, soaOfA})
	}
	// One is left, and then none.
	first := slices.Index(ordered, nsOfA)
	checkNew(t, apex, less(ordered, first), less(ordered, first))
	checkNew(t, apex, less(ordered, first+1), less(ordered, first+1))
	checkNone(t, apex, less(less(ordered, first), first), api.ErrApex)
}

func TestNamesThatAreNotUnderTheApex(t *testing.T) {
	for _, n := range []string{
		root, "\x01b\x00", "\x01A\x01b\x00", "\x02aa\x00", "\x01x\x01b\x00", "\x01`\x00", "\x01\x00\x00", "\x01\xff\x00",
		"\x03x\x01a\x00", "\x03x\x01A\x00", "\x02\x01a\x00", "\x01b\x02\x01a\x00", // these end in the same bytes
	} {
		r := rr(n, a, in, 5, "abcd")
		for i := range len(ordered) + 1 {
			checkNone(t, apex, with(ordered, i, r), api.ErrApex)
		}
		checkNone(t, apex, with(small, 2, r), api.ErrApex)
	}
	for _, n := range []string{"\x01a\x00", "\x01a\x01a\x00", "\x01b\x01A\x00", "\x03x\x01a\x01a\x00", "\x01\x00\x01a\x00"} {
		r := rr(n, 300, in, 5, "abcd")
		checkNew(t, apex, with(ordered, 0, r), modelSet(with(ordered, 0, r)))
	}
	// The same apex with a name above it.
	deep := []api.RR{rr("\x01b\x01a\x00", ns, in, 5, root), rr("\x01B\x01a\x00", soa, in, 5, root+root+numbers)}
	checkNew(t, "\x01b\x01A\x00", deep, deep)
	for _, r := range ordered {
		checkNone(t, "\x01b\x01A\x00", with(deep, 1, r), api.ErrApex)
	}
	checkNone(t, apex, deep, api.ErrApex)
}

func TestAnotherClass(t *testing.T) {
	for _, class := range []int{0, 2, 3, 4, 253, 254, 255, 256, 257, 65535} {
		r := address
		r.Class = class
		checkNone(t, apex, with(small, 2, r), api.ErrApex)
		for i := range ordered {
			other := ordered[i]
			other.Class = class
			checkNone(t, apex, instead(ordered, i, other), api.ErrApex)
			checkNone(t, apex, with(ordered, 0, other), api.ErrApex)
		}
	}
	checkNone(t, apex, with(small, 2, rr(apex, 300, 254, 0, "")), api.ErrApex)
	checkNone(t, apex, with(small, 2, rr(apex, 255, 255, 0, "")), api.ErrApex)
}

func TestTypes(t *testing.T) {
	types := []int{0, 1, 28, 33, 40, 41, 42, 127, 128, 129, 200, 249, 250, 251, 252, 253, 254, 255, 256, 257, 32768, 65534, 65535}
	for _, typ := range types {
		r := rr("\x01t\x01a\x00", typ, in, 5, "abcd")
		switch typ {
		case 28:
			r.Data = "abcdefghijklmnop"
		case srv:
			r.Data = "abcdef\x00"
		}
		if modelDataType(typ) {
			checkNew(t, apex, with(small, 0, r), with(small, 2, r))
			continue
		}
		for i := range len(ordered) + 1 {
			checkNone(t, apex, with(ordered, i, r), api.ErrApex)
		}
	}
}

func TestCnameRecords(t *testing.T) {
	second := alias
	second.Data = root
	z := checkNew(t, apex, with(small, 0, alias), with(small, 2, alias))
	checkZone(t, z, apex, with(small, 2, alias))
	checkNone(t, apex, with(small, 0, alias, second), api.ErrApex)
	second.Name = swap(second.Name)
	checkNone(t, apex, with(small, 0, second, alias), api.ErrApex)
	for _, typ := range []int{a, ns, 3, 4, 7, mx, txt, 300, 65535} {
		r := rr(alias.Name, typ, in, 9, "\x03abc\x00"[:4])
		switch typ {
		case ns:
			r.Data = root
		case mx:
			r.Data = "ab\x00"
		}
		for _, n := range []string{r.Name, swap(r.Name)} {
			r.Name = n
			for i := range len(small) + 1 {
				checkNone(t, apex, with(small, i, r, alias), api.ErrApex)
				checkNone(t, apex, with(small, i, alias, r), api.ErrApex)
			}
			checkNone(t, apex, with(ordered, 0, r), api.ErrApex)
			below := r
			below.Name = "\x01x" + n
			checkNew(t, apex, with(small, 0, alias, below), with(small, 2, alias, below))
		}
	}
	// A record of an equal alias takes its place, and one is left.
	for _, s := range twins(alias) {
		checkNew(t, apex, with(small, 0, alias, s), with(small, 2, s))
	}
}

// Records of other types stand before and behind the CNAME record, and at names before and behind its name.
func TestCnameAmongOtherRecords(t *testing.T) {
	for _, i := range []int{8, 10, 14, 16, 18, 20} {
		r := ordered[i]
		for _, n := range []string{r.Name, swap(r.Name)} {
			s := rr(n, cname, in, 5, root)
			checkNone(t, apex, with(ordered, 0, s), api.ErrApex)
			checkNone(t, apex, with(small, 1, r, s), api.ErrApex)
			checkNew(t, apex, instead(ordered, i, s), instead(ordered, i, s))
			s.Name = "\x01b" + n
			checkNew(t, apex, with(ordered, 0, s), modelSet(with(ordered, 0, s)))
			checkNew(t, apex, with(small, 0, r, s), with(small, 2, r, s))
		}
	}
}

func TestCnameAtTheApex(t *testing.T) {
	for _, n := range []string{"\x01a\x00", "\x01A\x00"} {
		r := rr(n, cname, in, 5, root)
		for i := range len(small) + 1 {
			checkNone(t, apex, with(small, i, r), api.ErrApex)
		}
		checkNone(t, apex, []api.RR{r}, api.ErrApex)
		checkNone(t, apex, []api.RR{r, soaOfA}, api.ErrApex)
		checkNone(t, apex, with(ordered, 3, r), api.ErrApex)
	}
}

// pool has records for each reason why a set is not a zone, and others that make it one.
var pool = []api.RR{
	soaOfA, soaOfA, nsOfA, nsOfA, twins(soaOfA)[0], twins(nsOfA)[2], address, alias,
	rr("\x01a\x00", soa, in, 7, root+root+numbers),
	rr("\x01b\x01a\x00", soa, in, 7, root+root+numbers),
	rr("\x01b\x01a\x00", ns, in, 7, root),
	rr("\x01C\x01a\x00", cname, in, 7, root),
	rr("\x01C\x01a\x00", txt, in, 7, "\x00"),
	rr("\x01x\x01A\x00", cname, in, 7, root),
	rr("\x01A\x00", cname, in, 7, root),
	rr("\x01x\x01c\x01a\x00", a, in, 7, "abcd"),
	rr("\x01y\x01x\x01y\x01a\x00", a, in, 7, "abcd"),
	rr("\x01b\x00", a, in, 5, "abcd"),
	rr(root, ns, in, 5, root),
	rr("\x03x\x01a\x00", a, in, 5, "abcd"),
	rr("\x01x\x01a\x00", a, 3, 5, "abcd"),
	rr("\x01x\x01a\x00", 41, in, 5, "abcd"),
	rr("\x01x\x01a\x00", 255, in, 5, "abcd"),
	rr("\x01x\x01a\x00", a, in, 5, "abc"),
	rr("\x01x\x01a\x00", a, in, -1, "abcd"),
}

// checkAgainstModel tells whether l is a zone.
func checkAgainstModel(t *testing.T, apex string, l []api.RR) bool {
	t.Helper()
	set, want := modelNew(apex, l)
	if want != api.OK {
		checkNone(t, apex, l, want)
		return false
	}
	z := checkNew(t, apex, l, set)
	r, parts := modelSoa(set)
	checkSoa(t, z, r, parts)
	checkNames(t, z, modelNames(set))
	return true
}

func TestAllShortLists(t *testing.T) {
	zones := 0
	for _, r := range pool {
		checkAgainstModel(t, apex, []api.RR{r})
		for _, s := range pool {
			checkAgainstModel(t, apex, []api.RR{r, s})
			for _, u := range pool {
				checkAgainstModel(t, apex, []api.RR{r, s, u})
				if checkAgainstModel(t, "\x01A\x00", []api.RR{soaOfA, nsOfA, r, s, u}) {
					zones++
				}
			}
		}
	}
	if zones < 500 {
		t.Errorf("only %d lists were zones", zones)
	}
}

func TestRandomLists(t *testing.T) {
	random := rand.New(rand.NewSource(2))
	apexes := []string{apex, apex, apex, "\x01A\x00", root, "\x01b\x01a\x00", "\x01a"}
	zones := 0
	for range 5000 {
		l := []api.RR{}
		for range random.Intn(8) {
			l = append(l, pool[random.Intn(17)])
		}
		if random.Intn(4) == 0 {
			l = with(l, random.Intn(len(l)+1), pool[random.Intn(len(pool))])
		}
		if checkAgainstModel(t, apexes[random.Intn(len(apexes))], l) {
			zones++
		}
	}
	if zones < 200 {
		t.Errorf("only %d lists were zones", zones)
	}
}

// P14.2

func TestApexIsAsItWasPassed(t *testing.T) {
	for _, n := range []string{"\x01a\x00", "\x01A\x00"} {
		if z := mustZone(t, n, ordered); z.Apex() != n {
			t.Errorf("%s is %s", brief(n), brief(z.Apex()))
		}
		if z := mustZone(t, n, ordered).WithSerial(9); z.Apex() != n {
			t.Errorf("%s is %s with another serial", brief(n), brief(z.Apex()))
		}
	}
}

func TestSoa(t *testing.T) {
	parts := rdata.SOA{M: "\x01M\x01a\x00", R: "\x01r\x00", Serial: 0x41424344, Refresh: 0x45464748, Retry: 0x494a4b4c, Expire: 0x4d4e4f50, Minimum: 0x51525354}
	checkSoa(t, mustZone(t, apex, small), soaOfA, parts)
	checkSoa(t, mustZone(t, apex, ordered), soaOfA, parts)
	checkSoa(t, mustZone(t, apex, reversed(ordered)), soaOfA, parts)
	s := twins(soaOfA)[0]
	checkSoa(t, mustZone(t, apex, append(reversed(ordered), s)), s, parts)
}

func longName(c string, last string) string {
	return strings.Repeat("\x3f"+strings.Repeat(c, 63), 3) + "\x3d" + strings.Repeat(last, 61) + "\x00"
}

func TestSoaWithLongNames(t *testing.T) {
	m, r := longName("M", "n"), longName("r", "S")
	for _, serial := range []uint32{0, 1, 255, 256, 1 << 31, 4294967295} {
		want := rdata.SOA{M: m, R: r, Serial: serial, Refresh: 4294967295, Retry: 0, Expire: 1 << 31, Minimum: 9}
		data, _ := rdata.Data(want)
		s := rr("\x01a\x00", soa, in, 2147483647, data)
		z := mustZone(t, apex, []api.RR{s, nsOfA, address})
		checkSoa(t, z, s, want)
		want.Serial = 77
		s.Data, _ = rdata.Data(want)
		checkSoa(t, z.WithSerial(77), s, want)
	}
}

func TestWithSerial(t *testing.T) {
	for _, l := range [][]api.RR{small, ordered} {
		z := mustZone(t, "\x01A\x00", l)
		_, parts := z.Soa()
		for _, n := range []uint32{0, 1, 127, 128, 255, 256, 65535, 65536, 0x41424343, 0x41424344, 0x41424345, 1<<31 - 1, 1 << 31, 4294967294, 4294967295} {
			y := z.WithSerial(n)
			checkAll(t, y, modelWithSerial(l, n))
			checkNames(t, y, z.Names())
			parts.Serial = n
			if r, got := y.Soa(); got != parts || r.TTL != soaOfA.TTL || r.Name != soaOfA.Name {
				t.Errorf("WithSerial(%d) has %s, %v", n, told(r), got)
			}
			checkAll(t, z, l)
		}
		checkZone(t, z, "\x01A\x00", l)
		checkZone(t, z.WithSerial(0x41424344), "\x01A\x00", l)
		checkZone(t, z.WithSerial(1).WithSerial(2), "\x01A\x00", modelWithSerial(l, 2))
	}
}

func TestNames(t *testing.T) {
	checkNames(t, mustZone(t, apex, small), []string{"\x01a\x00"})
	want := []string{
		"\x01a\x00", "\x01*\x01a\x00", "\x02bb\x01a\x00", "\x01n\x02bb\x01a\x00", "\x01c\x01a\x00", "\x01x\x01c\x01a\x00",
		"\x01z\x01y\x01d\x01a\x00", "\x01\x00\x01z\x01y\x01d\x01a\x00", "\x01e\x01e\x01e\x01a\x00",
		"\x01s\x01s\x01a\x00", "\x01v\x01w\x01s\x01a\x00", "\x01x\x01a\x00", "\x01\xff\x01a\x00",
	}
	checkNames(t, mustZone(t, apex, ordered), want)
	checkNames(t, mustZone(t, "\x01A\x00", reversed(ordered)), want)
	checkNames(t, mustZone(t, apex, ordered).WithSerial(9), want)
	swapped := slices.Clone(ordered)
	for i := range swapped {
		swapped[i].Name = swap(swapped[i].Name)
	}
	checkNames(t, mustZone(t, apex, swapped), want)
}

// The types decide the order of the records of a name, whose cases go to and fro.
func TestNamesThatDifferOnlyInCase(t *testing.T) {
	l := slices.Clone(small)
	for i := range 20 {
		n := "\x02bc\x01a\x00"
		if i%2 == 1 {
			n = "\x02Bc\x01A\x00"
		}
		l = append(l, rr(n, 300+i, in, 5, ""))
	}
	z := checkNew(t, apex, l, l)
	checkNames(t, z, []string{"\x01a\x00", "\x02bc\x01a\x00"})
	for _, n := range []string{"\x02bc\x01a\x00", "\x02Bc\x01A\x00", "\x02BC\x01a\x00", "\x02bC\x01A\x00"} {
		checkAt(t, z, n, l[2:])
		checkSet(t, z, n, 307, l[9:10])
		checkName(t, z, n, true, false)
	}
}

// P14.3

func TestAtAndSet(t *testing.T) {
	z := mustZone(t, apex, ordered)
	for _, n := range []string{"\x01a\x00", "\x01A\x00"} {
		checkAt(t, z, n, ordered[:8])
		checkSet(t, z, n, a, ordered[:2])
		checkSet(t, z, n, ns, ordered[2:4])
		checkSet(t, z, n, soa, ordered[4:5])
		checkSet(t, z, n, 127, ordered[5:6])
		checkSet(t, z, n, 256, ordered[6:7])
		checkSet(t, z, n, 65535, ordered[7:8])
		for _, typ := range []int{math.MinInt, -1, 0, 3, cname, 28, 41, 255, 257, 65536, 65537, math.MaxInt} {
			checkSet(t, z, n, typ, nil)
		}
	}
	for _, n := range []string{"\x01x\x01c\x01a\x00", "\x01X\x01C\x01A\x00"} {
		checkAt(t, z, n, ordered[12:14])
		checkSet(t, z, n, a, ordered[12:13])
		checkSet(t, z, n, txt, ordered[13:14])
		checkSet(t, z, n, cname, nil)
	}
	checkAt(t, z, "\x01\xff\x01A\x00", ordered[20:])
	checkSet(t, z, "\x01\xff\x01A\x00", 42, ordered[20:])
	checkAt(t, z, "\x01C\x01a\x00", ordered[11:12])
	checkAt(t, z, "\x01x\x01*\x01a\x00", nil) // no wildcards here
	checkAt(t, z, "\x01q\x01a\x00", nil)
}

// Names at which no record stands: above the apex, without records of their own, beside, and under others.
func TestAtAndSetOfNamesWithoutRecords(t *testing.T) {
	z := mustZone(t, apex, ordered)
	for _, n := range []string{root, "\x01d\x01a\x00", "\x01y\x01d\x01a\x00", "\x01E\x01e\x01a\x00", "\x01b\x00", "\x01a\x01b\x00", "\x01b\x01a\x00", "\x01a\x01x\x01a\x00", "\x03x\x01a\x00"} {
		checkAt(t, z, n, nil)
		for _, typ := range []int{a, ns, cname, soa, 255} {
			checkSet(t, z, n, typ, nil)
		}
	}
}

func TestThereAndEmpty(t *testing.T) {
	z := mustZone(t, apex, ordered)
	for _, n := range []string{
		"\x01a\x00", "\x01*\x01a\x00", "\x02bB\x01a\x00", "\x01N\x02bb\x01a\x00", "\x01C\x01a\x00", "\x01x\x01c\x01a\x00",
		"\x01z\x01y\x01d\x01a\x00", "\x01\x00\x01z\x01y\x01d\x01a\x00", "\x01e\x01e\x01e\x01a\x00", "\x01s\x01s\x01A\x00", "\x01v\x01w\x01s\x01a\x00", "\x01X\x01A\x00", "\x01\xff\x01a\x00",
	} {
		checkName(t, z, n, true, false)
		checkName(t, z, swap(n), true, false)
	}
	for _, n := range []string{
		root, "\x01d\x01a\x00", "\x01y\x01d\x01a\x00", "\x01e\x01a\x00", "\x01e\x01e\x01a\x00", "\x01s\x01a\x00", "\x01w\x01s\x01a\x00",
	} {
		checkName(t, z, n, false, true)
		checkName(t, z, swap(n), false, true)
	}
	for _, n := range []string{
		"\x01b\x00", "\x02aa\x00", "\x01a\x01b\x00", "\x01`\x00", "\x01b\x01a\x00", "\x03bbb\x01a\x00", "\x01n\x01a\x00", "\x01x\x01d\x01a\x00", "\x01z\x01d\x01a\x00",
		"\x01y\x01z\x01y\x01d\x01a\x00", "\x01e\x01e\x01e\x01e\x01a\x00", "\x01x\x01x\x01c\x01a\x00", "\x01y\x01x\x01a\x00", "\x01*\x01*\x01a\x00", "\x01\x00\x01a\x00", "\x02\xff\xff\x01a\x00", "\x01\xff\x01\xff\x01a\x00",
		"\x03s\x01a\x00", "\x03d\x01a\x00", "\x05y\x01d\x01a\x00", "\x01s\x00",
	} {
		checkName(t, z, n, false, false)
		checkName(t, z, swap(n), false, false)
	}
}

// Above the apex there are only empty names, also if the apex is deep.
func TestNamesAboveADeepApex(t *testing.T) {
	deep := "\x01c\x01b\x01a\x00"
	l := []api.RR{rr(deep, ns, in, 5, root), rr(deep, soa, in, 5, root+root+numbers)}
	z := checkNew(t, deep, l, l)
	checkZone(t, z, deep, l)
	for _, n := range []string{root, "\x01a\x00", "\x01B\x01a\x00"} {
		checkName(t, z, n, false, true)
	}
	for _, n := range []string{"\x01b\x00", "\x01c\x00", "\x01c\x01a\x00", "\x01d\x01b\x01a\x00", "\x01a\x01b\x01a\x00", "\x01x\x01c\x01b\x01a\x00", "\x03b\x01a\x00"} {
		checkName(t, z, n, false, false)
	}
}

func TestNamesOfTheWholeLength(t *testing.T) {
	long := strings.Repeat("\x01x", 126) + "\x01a\x00"
	l := append(slices.Clone(small), rr(long, a, in, 5, "abcd"))
	z := checkNew(t, apex, l, l)
	checkName(t, z, long, true, false)
	checkName(t, z, swap(long), true, false)
	for n := long[2:]; n != apex; n = n[2:] {
		checkName(t, z, n, false, true)
		checkAt(t, z, n, nil)
		checkName(t, z, "\x01y"+n, false, false)
	}
}

func TestStringsThatAreNotNames(t *testing.T) {
	for _, l := range [][]api.RR{small, ordered} {
		z := mustZone(t, apex, l)
		for _, n := range append(slices.Clone(wrongNames), "\x01x\x01a", "\x01x\x01a\x00\x01", "\x01x\xc0\x00", "\x00\x01a\x00") {
			checkAt(t, z, n, nil)
			checkName(t, z, n, false, false)
			for _, typ := range []int{0, a, ns, soa, 255} {
				checkSet(t, z, n, typ, nil)
			}
		}
	}
}

func TestAllThatAZoneTells(t *testing.T) {
	checkZone(t, mustZone(t, apex, small), apex, small)
	checkZone(t, mustZone(t, "\x01A\x00", ordered), "\x01A\x00", ordered)
}

// randomZone has names of up to five labels of few letters, so that they are above and beside each other.
func randomZone(random *rand.Rand) []api.RR {
	l := slices.Clone(small)
	for range random.Intn(12) {
		n := apex
		for range random.Intn(5) {
			n = "\x01" + string("aAbB\x00*"[random.Intn(6)]) + n
		}
		l = append(l, rr(n, 300+random.Intn(3), in, random.Intn(3), string("aA"[random.Intn(2)])))
	}
	return shuffled(random, l)
}

func TestRandomZones(t *testing.T) {
	random := rand.New(rand.NewSource(3))
	for range 60 {
		l := randomZone(random)
		checkAgainstModel(t, apex, l)
		checkZone(t, mustZone(t, apex, l), apex, modelSet(l))
	}
}

// P14.4

func TestTheRecordsMakeTheZoneAgain(t *testing.T) {
	random := rand.New(rand.NewSource(4))
	for range 300 {
		z := mustZone(t, "\x01A\x00", randomZone(random))
		set := z.All()
		for _, l := range [][]api.RR{set, reversed(set), shuffled(random, set), slices.Concat(set, set), shuffled(random, slices.Concat(set, set, set))} {
			checkNew(t, z.Apex(), l, set)
		}
	}
}

func TestAZoneWithAnotherSerialIsAZone(t *testing.T) {
	random := rand.New(rand.NewSource(5))
	for range 300 {
		z := mustZone(t, apex, randomZone(random))
		n := random.Uint32()
		y := z.WithSerial(n)
		if _, parts := y.Soa(); parts.Serial != n || !rrset.Is(y.All()) {
			t.Errorf("the serial %d is %d in %s", n, parts.Serial, told(y.All()...))
		}
		checkNew(t, y.Apex(), shuffled(random, y.All()), y.All())
		checkNew(t, z.Apex(), shuffled(random, y.WithSerial(0x41424344).All()), z.All())
	}
}

// R1, R5 and R7

func TestWrongZonesDoNotPanic(t *testing.T) {
	random := rand.New(rand.NewSource(6))
	for range 2000 {
		l := slices.Clone(small)
		for range random.Intn(4) {
			l = with(l, random.Intn(len(l)), wrong[random.Intn(len(wrong))])
		}
		n := wrongNames[random.Intn(len(wrongNames))]
		checkNone(t, n, l, api.ErrForm)
		z, _ := zone.New(n, l)
		z.WithSerial(7).Soa()
		checkName(t, z, n, false, false)
		checkName(t, z, apex, false, false)
		checkAt(t, z, apex, nil)
		checkSet(t, z, apex, soa, nil)
	}
}

// Two zones of one list, and zones with other serials, are independent of each other and of every list that was handed in or returned.
func TestZonesAreIndependent(t *testing.T) {
	l := slices.Clone(ordered)
	z, _ := zone.New(apex, l)
	y, _ := zone.New(apex, l)
	l[0] = address
	w := z.WithSerial(1)
	lists := [][]api.RR{l, z.All(), y.All(), w.All(), z.At(apex), z.Set(apex, ns), w.At(apex), w.Set(apex, soa)}
	names := z.Names()
	before := [][]api.RR{}
	for _, k := range lists {
		before = append(before, slices.Clone(k))
	}
	spoil(y.All())
	checkZone(t, z, apex, ordered)
	checkZone(t, y.WithSerial(5), apex, modelWithSerial(ordered, 5))
	checkZone(t, w, apex, modelWithSerial(ordered, 1))
	for i, k := range lists {
		if !slices.Equal(k, before[i]) {
			t.Errorf("the list %d is now %s; before %s", i, told(k...), told(before[i]...))
		}
	}
	if !slices.Equal(names, z.Names()) {
		t.Errorf("the names are now %q", names)
	}
	for _, k := range lists {
		spoil(k)
		checkAll(t, z, ordered)
		checkAll(t, y, ordered)
		checkAll(t, w, modelWithSerial(ordered, 1))
	}
}

// A copy of a zone is as good as the zone.
func TestAZoneIsPassedByValue(t *testing.T) {
	z := mustZone(t, apex, ordered)
	y := z
	z = mustZone(t, "\x01A\x00", small)
	checkZone(t, y, apex, ordered)
	checkZone(t, z, "\x01A\x00", small)
}
