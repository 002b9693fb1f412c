package entry_test

import (
	"fmt"
	"math"
	"math/rand"
	"slices"
	"strings"
	"testing"

	"beadroll/api"
	"beadroll/entry"
	"beadroll/record"
)

const (
	root = "\x00"
	apex = "\x01a\x00"
	// numbers are those of an SOA.
	numbers = "ABCDEFGHIJKLMNOPQRST"
	// from1to2 are the bytes of the entry without records from 1 to 2.
	from1to2 = "\x00\x00\x00\x01\x00\x00\x00\x02\x00\x00\x00\x00"
)

// longest is a name of MaxName bytes; tooLong has one byte more, and is otherwise a name.
var (
	longest = wire(strings.Repeat("a", 63), strings.Repeat("B", 63), strings.Repeat("c", 63), strings.Repeat("d", 61))
	tooLong = wire(strings.Repeat("a", 63), strings.Repeat("B", 63), strings.Repeat("c", 63), strings.Repeat("d", 62))
)

// foreign and foreignEntry stand in the spare capacity of what is handed in, and scribble is written over what is returned.
var (
	foreign      = rr("\x07foreign\x00", 9, 9, 77777, "foreign")
	foreignEntry = entry.Entry{From: 77, To: 777, Del: list(foreign), Add: list(foreign)}
	scribble     = rr("\x08scribble\x00", 8, 8, 77777, "scribble")
)

// some are records whose own bytes are written out in ownOfSome.
var some = []api.RR{
	rr(apex, a, in, 5, "\x0a\x00\x00\x01"),
	rr("\x01x\x01a\x00", a, in, 3600, "abcd"),
	rr("\x01X\x01a\x00", a, in, 3600, "abcd"),
	rr(root, ns, in, 0, "\x01n\x00"),
	rr(apex, 99, in, maxTTL, ""),
	rr("\x01x\x01a\x00", mx, none, 0, "\x00\x0a\x01m\x01a\x00"),
	rr("\x01x\x01a\x00", txt, none, 0, ""),
	rr("\x01x\x01a\x00", 255, anyClass, 0, ""),
	rr("\x02zz\x00", 65535, 65535, 1, "\xc0\x00"),
}

var ownOfSome = []string{
	"\x01a\x00" + "\x00\x01\x00\x01\x00\x00\x00\x05\x00\x04\x0a\x00\x00\x01",
	"\x01x\x01a\x00" + "\x00\x01\x00\x01\x00\x00\x0e\x10\x00\x04abcd",
	"\x01X\x01a\x00" + "\x00\x01\x00\x01\x00\x00\x0e\x10\x00\x04abcd",
	"\x00" + "\x00\x02\x00\x01\x00\x00\x00\x00\x00\x03\x01n\x00",
	"\x01a\x00" + "\x00\x63\x00\x01\x7f\xff\xff\xff\x00\x00",
	"\x01x\x01a\x00" + "\x00\x0f\x00\xfe\x00\x00\x00\x00\x00\x06\x00\x0a\x01m\xc0\x02",
	"\x01x\x01a\x00" + "\x00\x10\x00\xfe\x00\x00\x00\x00\x00\x00",
	"\x01x\x01a\x00" + "\x00\xff\x00\xff\x00\x00\x00\x00\x00\x00",
	"\x02zz\x00" + "\xff\xff\xff\xff\x00\x00\x00\x01\x00\x02\xc0\x00",
}

// wrong are records that are not valid, in each way that layer 11 names.
var wrong = []api.RR{
	{},
	rr("", a, in, 5, "abcd"),
	rr("\x01", a, in, 5, "abcd"),
	rr("\x01a", a, in, 5, "abcd"),
	rr("a.", a, in, 5, "abcd"),
	rr("\x00\x00", a, in, 5, "abcd"),
	rr("\x01a\x00\x00", a, in, 5, "abcd"),
	rr("\x01a\xc0\x00", a, in, 5, "abcd"),
	rr("\x40"+strings.Repeat("a", 64)+"\x00", a, in, 5, "abcd"),
	rr(tooLong, a, in, 5, "abcd"),
	rr(tooLong, 255, anyClass, 0, ""),
	rr(apex, -1, in, 5, "abcd"),
	rr(apex, 65536, in, 5, "abcd"),
	rr(apex, 65536+a, in, 5, "abcd"),
	rr(apex, 1<<32+a, in, 5, "abcd"),
	rr(apex, math.MinInt, anyClass, 5, ""),
	rr(apex, a, -1, 5, "abcd"),
	rr(apex, a, 65536, 5, "abcd"),
	rr(apex, a, 65536+in, 5, "abcd"),
	rr(apex, a, 1<<32+in, 5, "abcd"),
	rr(apex, a, math.MaxInt, 5, ""),
	rr(apex, a, in, -1, "abcd"),
	rr(apex, a, in, maxTTL+1, "abcd"),
	rr(apex, a, in, 1<<32, "abcd"),
	rr(apex, a, in, 1<<32+5, "abcd"),
	rr(apex, 255, anyClass, math.MinInt, ""),
	rr(apex, a, in, 5, ""),
	rr(apex, a, in, 5, "abc"),
	rr(apex, a, in, 5, "abcde"),
	rr(apex, aaaa, in, 5, "0123456789ABCDE"),
	rr(apex, ns, in, 5, ""),
	rr(apex, ns, in, 5, "\x01n"),
	rr(apex, ns, in, 5, "\x01n\xc0\x00"),
	rr(apex, cname, in, 5, "\xc0\x00"),
	rr(apex, ptr, in, 5, "\x01n\x00\x00"),
	rr(apex, mx, in, 5, "\x00\x0a"),
	rr(apex, mx, in, 5, "\x00\x0a"+tooLong),
	rr(apex, soa, in, 5, "\x00\x00"+numbers[1:]),
	rr(apex, soa, in, 5, "\x00\x00"+numbers+"U"),
	rr(apex, txt, in, 5, ""),
	rr(apex, txt, in, 5, "\x02a"),
	rr(apex, srv, in, 5, "ABCDEF"),
	rr(apex, srv, in, 5, "ABCDEF\xc0\x00"),
	rr(apex, a, none, 5, "abc"),
	rr(apex, ns, none, 5, "\x01n"),
	rr(apex, txt, none, 5, "\x01"),
	rr(apex, 99, in, 5, strings.Repeat("A", maxData+1)),
	rr(apex, 99, none, 5, strings.Repeat("A", maxData+1)),
	rr(apex, a, anyClass, 5, strings.Repeat("A", maxData+1)),
}

func wire(labels ...string) string {
	n := ""
	for _, l := range labels {
		n += string([]byte{byte(len(l))}) + l
	}
	return n + "\x00"
}

func rr(n string, typ, class, ttl int, data string) api.RR {
	return api.RR{Name: n, Type: typ, Class: class, TTL: ttl, Data: data}
}

func list(l ...api.RR) []api.RR {
	return l
}

func change(from, to uint32, del, add []api.RR) entry.Entry {
	return entry.Entry{From: from, To: to, Del: del, Add: add}
}

// steps are a chain from 10 on, whose entries have these lists, by turns the deleted and the added records.
func steps(lists ...[]api.RR) []entry.Entry {
	l := []entry.Entry{}
	for i := 0; i < len(lists); i += 2 {
		from := uint32(10 + i/2)
		l = append(l, change(from, from+1, lists[i], lists[i+1]))
	}
	return l
}

// piece is a piece of the width 4.
func piece(s string) string {
	return four(len(s)) + s
}

// pointer is the two bytes of a pointer to an offset.
func pointer(to int) string {
	return two(0xc000 + to)
}

// swap exchanges capital and small letters.
func swap(s string) string {
	b := []byte(s)
	for i, c := range b {
		if 'a' <= c|0x20 && c|0x20 <= 'z' {
			b[i] ^= 0x20
		}
	}
	return string(b)
}

func brief(s string) string {
	if len(s) > 60 {
		return fmt.Sprintf("%q.. (%d bytes)", s[:60], len(s))
	}
	return fmt.Sprintf("%q", s)
}

func told(l ...api.RR) string {
	s := fmt.Sprintf("%d:", len(l))
	for _, r := range l[:min(len(l), 12)] {
		s += fmt.Sprintf(" {%s %d %d TTL %d %s}", brief(r.Name), r.Type, r.Class, r.TTL, brief(r.Data))
	}
	return s
}

func toldEntries(l ...entry.Entry) string {
	s := fmt.Sprintf("%d entries:", len(l))
	for _, x := range l[:min(len(l), 8)] {
		s += fmt.Sprintf(" {from %d to %d; deleted %s; added %s}", x.From, x.To, told(x.Del...), told(x.Add...))
	}
	return s
}

func sameEntry(x, y entry.Entry) bool {
	return x.From == y.From && x.To == y.To && slices.Equal(x.Del, y.Del) && slices.Equal(x.Add, y.Add)
}

func with(l []api.RR, i int, r ...api.RR) []api.RR {
	return slices.Insert(slices.Clone(l), i, r...)
}

// spare is a copy of a list with foreign records in its spare capacity.
func spare(l []api.RR) []api.RR {
	return append(slices.Clone(l), foreign, foreign, foreign)[:len(l)]
}

func isSpare(l []api.RR) bool {
	return slices.Equal(l[len(l):len(l)+3], list(foreign, foreign, foreign))
}

// given are entries that are handed in, with spare capacity everywhere.
type given struct {
	l, before []entry.Entry
}

func give(l ...entry.Entry) given {
	g := given{before: slices.Clone(l)}
	for _, x := range l {
		g.l = append(g.l, change(x.From, x.To, spare(x.Del), spare(x.Add)))
	}
	g.l = append(g.l, foreignEntry, foreignEntry)[:len(l)]
	return g
}

func (g given) check(t *testing.T) {
	t.Helper()
	if !slices.EqualFunc(g.l, g.before, sameEntry) {
		t.Errorf("the call changed what was handed in: %s; before %s", toldEntries(g.l...), toldEntries(g.before...))
	}
	for _, x := range g.l {
		if !isSpare(x.Del) || !isSpare(x.Add) {
			t.Errorf("the call changed the spare capacity of the lists of %s", toldEntries(x))
		}
	}
	for _, x := range g.l[len(g.l) : len(g.l)+2] {
		if !sameEntry(x, foreignEntry) {
			t.Errorf("the call changed the spare capacity of %s", toldEntries(g.l...))
		}
	}
}

func (g given) spoil() {
	for _, x := range g.l {
		spoil(x.Del)
		spoil(x.Add)
	}
}

// spoil writes over a list, and what capacity it has.
func spoil(l []api.RR) {
	l = l[:cap(l)]
	for i := range l {
		l[i] = scribble
	}
}

func checkList(t *testing.T, call string, got, want []api.RR) {
	t.Helper()
	if !slices.Equal(got, want) {
		t.Errorf("%s: %s; want %s", call, told(got...), told(want...))
	}
}

func checkText(t *testing.T, call, got string, gotE api.Errno, want string, wantE api.Errno) {
	t.Helper()
	if got == want && gotE == wantE {
		return
	}
	i := 0
	for i < len(got) && i < len(want) && got[i] == want[i] {
		i++
	}
	t.Errorf("%s: %d, %d bytes, from %d on %s; want %d, %d bytes, %s", call, gotE, len(got), i, brief(got[i:]), wantE, len(want), brief(want[i:]))
}

func checkOwn(t *testing.T, r api.RR, want string) {
	t.Helper()
	got, e := entry.Own(r)
	checkText(t, "Own of "+told(r), got, e, want, api.OK)
}

func checkNoOwn(t *testing.T, r api.RR) {
	t.Helper()
	got, e := entry.Own(r)
	checkText(t, "Own of "+told(r), got, e, "", api.ErrForm)
}

// checkRecords asks twice, and writes over the first answer.
func checkRecords(t *testing.T, b string, want []api.RR, wantE api.Errno) {
	t.Helper()
	for range 2 {
		got, e := entry.Records(b)
		if e != wantE {
			t.Errorf("Records of %s: %d; want %d", brief(b), e, wantE)
		}
		checkList(t, "Records of "+brief(b), got, want)
		spoil(got)
	}
}

func checkNoRecords(t *testing.T, b string) {
	t.Helper()
	checkRecords(t, b, nil, api.ErrForm)
}

func checkBytes(t *testing.T, x entry.Entry, want string, wantE api.Errno) {
	t.Helper()
	g := give(x)
	got, e := entry.Bytes(g.l[0])
	g.check(t)
	g.spoil()
	checkText(t, "Bytes of "+toldEntries(x), got, e, want, wantE)
}

func checkNoBytes(t *testing.T, x entry.Entry) {
	t.Helper()
	checkBytes(t, x, "", api.ErrForm)
}

// checkOf asks twice, and writes over the first entry, one list after the other.
func checkOf(t *testing.T, b string, want entry.Entry, wantE api.Errno) {
	t.Helper()
	for range 2 {
		got, e := entry.Of(b)
		if e != wantE || !sameEntry(got, want) {
			t.Errorf("Of %s: %s, %d; want %s, %d", brief(b), toldEntries(got), e, toldEntries(want), wantE)
		}
		checkApart(t, got)
	}
}

func checkNoEntry(t *testing.T, b string) {
	t.Helper()
	checkOf(t, b, entry.Entry{}, api.ErrForm)
}

// checkApart checks that no list of an entry that was returned reaches into the other one.
func checkApart(t *testing.T, x entry.Entry) {
	t.Helper()
	add := slices.Clone(x.Add)
	_ = append(x.Del, scribble, scribble)
	checkList(t, "added, when records are appended to the deleted ones", x.Add, add)
	spoil(x.Del)
	checkList(t, "added, when the deleted ones are written over", x.Add, add)
	del := slices.Clone(x.Del)
	_ = append(x.Add, foreign, foreign)
	for i := range x.Add[:cap(x.Add)] {
		x.Add[:cap(x.Add)][i] = foreign
	}
	checkList(t, "deleted, when the added ones are written over", x.Del, del)
}

// checkBoth encodes an entry and reads it back.
func checkBoth(t *testing.T, x entry.Entry, b string) {
	t.Helper()
	checkBytes(t, x, b, api.OK)
	checkOf(t, b, x, api.OK)
}

func checkChain(t *testing.T, want bool, l ...entry.Entry) {
	t.Helper()
	g := give(l...)
	if got := entry.Chain(g.l); got != want {
		t.Errorf("Chain(%s) = %v", toldEntries(l...), got)
	}
	g.check(t)
}

// checkSum asks twice, and writes over the first answer, and at the end over what was handed in.
func checkSum(t *testing.T, l []entry.Entry, want entry.Entry, wantE api.Errno) {
	t.Helper()
	g := give(l...)
	for range 2 {
		got, e := entry.Sum(g.l)
		if e != wantE || !sameEntry(got, want) {
			t.Errorf("Sum of %s: %s, %d; want %s, %d", toldEntries(l...), toldEntries(got), e, toldEntries(want), wantE)
		}
		g.check(t)
		checkApart(t, got)
		g.check(t)
	}
	got, _ := entry.Sum(g.l)
	g.spoil()
	if !sameEntry(got, want) {
		t.Errorf("Sum, when the entries are written over: %s; want %s", toldEntries(got), toldEntries(want))
	}
}

// checkLists checks the lists of the sum of a chain.
func checkLists(t *testing.T, l []entry.Entry, del, add []api.RR) {
	t.Helper()
	checkSum(t, l, change(l[0].From, l[len(l)-1].To, del, add), api.OK)
}

func checkNoSum(t *testing.T, l ...entry.Entry) {
	t.Helper()
	checkSum(t, l, entry.Entry{}, api.ErrGap)
	checkChain(t, len(l) == 0, l...)
}

func checkSumModel(t *testing.T, l []entry.Entry) {
	t.Helper()
	want, e := modelSum(l)
	checkSum(t, l, want, e)
	checkChain(t, modelChain(l), l...)
}

// checkMany encodes the entry of two long lists, and reads it back, without telling all of it.
func checkMany(t *testing.T, x entry.Entry) {
	t.Helper()
	want, wantE := modelBytes(x)
	b, e := entry.Bytes(x)
	checkText(t, fmt.Sprintf("Bytes of %d and %d records", len(x.Del), len(x.Add)), b, e, want, wantE)
	if y, e := entry.Of(b); wantE == api.OK && (e != api.OK || !sameEntry(x, y)) {
		t.Errorf("Of %d and %d records: %d, %d and %d", len(x.Del), len(x.Add), e, len(y.Del), len(y.Add))
	}
}

func TestTheRecordsOfTheseTests(t *testing.T) {
	for _, r := range some {
		if !record.Right(r) {
			t.Errorf("%s is not valid", told(r))
		}
	}
	for _, r := range wrong {
		if record.Right(r) {
			t.Errorf("%s is valid", told(r))
		}
	}
	if len(longest) != api.MaxName || len(tooLong) != api.MaxName+1 {
		t.Errorf("the names have %d and %d bytes", len(longest), len(tooLong))
	}
}

// P17.1

func TestOwn(t *testing.T) {
	for i, r := range some {
		checkOwn(t, r, ownOfSome[i])
	}
	for i, r := range some { // once more: no record knows the names of another one
		checkOwn(t, r, ownOfSome[i])
		checkOwn(t, r, ownOfSome[i])
	}
}

func TestOwnOfRecordsThatAreNotValid(t *testing.T) {
	for _, r := range wrong {
		checkNoOwn(t, r)
	}
}

// otherClasses are those whose data is arbitrary.
var otherClasses = []int{0, 2, 253, anyClass, 256 + in, 256 + none, 65535}

func TestOwnOfTheGreatestData(t *testing.T) {
	for _, size := range []int{maxData - 1, maxData} {
		same := strings.Repeat("A", size)
		texts := strings.Repeat("\xff"+strings.Repeat("T", 255), 255)
		texts += string([]byte{byte(size - len(texts) - 1)}) + strings.Repeat("U", size-len(texts)-1)
		for _, n := range []string{root, apex, longest} {
			for _, class := range append([]int{in, none}, otherClasses...) {
				checkOwn(t, rr(n, 99, class, 5, same), n+"\x00\x63"+two(class)+"\x00\x00\x00\x05"+two(size)+same)
				checkOwn(t, rr(n, txt, class, 5, texts), n+"\x00\x10"+two(class)+"\x00\x00\x00\x05"+two(size)+texts)
			}
			for _, class := range otherClasses {
				checkOwn(t, rr(n, ns, class, 5, same), n+"\x00\x02"+two(class)+"\x00\x00\x00\x05"+two(size)+same)
			}
		}
		for _, r := range list(rr(longest, 99, in, 5, same), rr(longest, txt, in, 5, texts), rr(longest, soa, in, 5, longest+longest+numbers)) {
			own, e := entry.Own(r)
			if e != api.OK {
				t.Errorf("Own of %s: %d", told(r), e)
			}
			checkRecords(t, piece(own), list(r), api.OK)
			checkBoth(t, change(1, 2, list(r), list(r)), from1to2[:11]+"\x01"+piece(own)+piece(own))
		}
	}
	for _, class := range append([]int{in, none}, otherClasses...) {
		for _, size := range []int{maxData + 1, maxData + 2, 65536 + 4, 2 * maxData} {
			checkNoOwn(t, rr(apex, 99, class, 5, strings.Repeat("A", size)))
		}
	}
}

// A name that occurs again in the record's own data is a pointer.
func TestOwnWithPointers(t *testing.T) {
	head := "\x00\x01\x00\x00\x00\x05"
	for _, w := range []struct {
		r    api.RR
		want string
	}{
		{rr("\x01x\x01a\x00", ns, in, 5, "\x01x\x01a\x00"), "\x01x\x01a\x00\x00\x02" + head + "\x00\x02\xc0\x00"},
		{rr("\x01x\x01a\x00", cname, in, 5, "\x01a\x00"), "\x01x\x01a\x00\x00\x05" + head + "\x00\x02\xc0\x02"},
		{rr("\x01x\x01a\x00", ptr, in, 5, "\x02yy\x01x\x01a\x00"), "\x01x\x01a\x00\x00\x0c" + head + "\x00\x05\x02yy\xc0\x00"},
		{rr("\x01x\x01a\x00", mx, in, 5, "AB\x02yy\x01a\x00"), "\x01x\x01a\x00\x00\x0f" + head + "\x00\x07AB\x02yy\xc0\x02"},
		{rr("\x01x\x01a\x00", soa, in, 5, "\x01a\x00\x01x\x01a\x00"+numbers), "\x01x\x01a\x00\x00\x06" + head + "\x00\x18\xc0\x02\xc0\x00" + numbers},
		{rr(apex, soa, in, 5, "\x01m\x01n\x00\x01r\x01n\x00"+numbers), "\x01a\x00\x00\x06" + head + "\x00\x1d\x01m\x01n\x00\x01r\xc0\x0f" + numbers},
		{rr(apex, soa, in, 5, "\x01m\x01a\x00\x01m\x01a\x00"+numbers), "\x01a\x00\x00\x06" + head + "\x00\x1a\x01m\xc0\x00\xc0\x0d" + numbers},
		{rr(root, soa, in, 5, root+root+numbers), "\x00\x00\x06" + head + "\x00\x16\x00\x00" + numbers},
		{rr("\x01x\x01a\x00", srv, in, 5, "ABCDEF\x01x\x01a\x00"), "\x01x\x01a\x00\x00\x21" + head + "\x00\x0bABCDEF\x01x\x01a\x00"},
		{rr("\x01x\x01a\x00", txt, in, 5, "\x01x\x01a\x00"), "\x01x\x01a\x00\x00\x10" + head + "\x00\x05\x01x\x01a\x00"},
		{rr("\x01x\x01a\x00", 99, in, 5, "\x01x\x01a\x00"), "\x01x\x01a\x00\x00\x63" + head + "\x00\x05\x01x\x01a\x00"},
		{rr("\x01x\x01a\x00", ns, in, 5, "\x01X\x01a\x00"), "\x01x\x01a\x00\x00\x02" + head + "\x00\x04\x01X\xc0\x02"},
		{rr("\x01x\x01a\x00", ns, in, 5, "\x01x\x01A\x00"), "\x01x\x01a\x00\x00\x02" + head + "\x00\x05\x01x\x01A\x00"},
		{rr("\x01a\x01a\x00", ns, in, 5, "\x01a\x01a\x01a\x00"), "\x01a\x01a\x00\x00\x02" + head + "\x00\x04\x01a\xc0\x00"},
		{rr("\x01x\x01a\x00", ns, none, 0, "\x01x\x01a\x00"), "\x01x\x01a\x00\x00\x02\x00\xfe\x00\x00\x00\x00\x00\x02\xc0\x00"},
		{rr("\x01x\x01a\x00", ns, anyClass, 0, "\x01x\x01a\x00"), "\x01x\x01a\x00\x00\x02\x00\xff\x00\x00\x00\x00\x00\x05\x01x\x01a\x00"},
		{rr(longest, ns, in, 5, longest), longest + "\x00\x02" + head + "\x00\x02\xc0\x00"},
		{rr(longest, ptr, in, 5, longest[64:]), longest + "\x00\x0c" + head + "\x00\x02\xc0\x40"},
	} {
		checkOwn(t, w.r, w.want)
		checkRecords(t, piece(w.want), list(w.r), api.OK)
		checkBoth(t, change(1, 2, list(w.r), nil), from1to2[:11]+"\x01"+piece(w.want))
		checkBoth(t, change(1, 2, nil, list(w.r)), from1to2+piece(w.want))
	}
}

func TestOwnOfRecordsWithoutData(t *testing.T) {
	for _, typ := range []int{0, 99, 41, 128, 255, 65535} {
		for _, class := range append([]int{in, none}, otherClasses...) {
			checkOwn(t, rr(apex, typ, class, 5, ""), apex+two(typ)+two(class)+"\x00\x00\x00\x05\x00\x00")
		}
	}
	for _, typ := range []int{a, ns, cname, soa, ptr, mx, txt, aaaa, srv} {
		for _, class := range append([]int{none}, otherClasses...) {
			r, own := rr(longest, typ, class, 5, ""), longest+two(typ)+two(class)+"\x00\x00\x00\x05\x00\x00"
			checkOwn(t, r, own)
			checkRecords(t, piece(own), list(r), api.OK)
		}
		checkNoOwn(t, rr(longest, typ, in, 5, ""))
		checkNoRecords(t, piece(longest+two(typ)+"\x00\x01\x00\x00\x00\x05\x00\x00"))
	}
}

// allPieces are the pieces of all the records some.
func allPieces() string {
	b := ""
	for _, own := range ownOfSome {
		b += piece(own)
	}
	return b
}

func TestRecords(t *testing.T) {
	checkRecords(t, "", nil, api.OK)
	for i, r := range some {
		checkRecords(t, piece(ownOfSome[i]), list(r), api.OK)
		for j, s := range some {
			checkRecords(t, piece(ownOfSome[i])+piece(ownOfSome[j]), list(r, s), api.OK)
		}
	}
	checkRecords(t, allPieces(), some, api.OK)
	checkRecords(t, allPieces()+allPieces(), slices.Concat(some, some), api.OK)
	checkRecords(t, strings.Repeat(piece(ownOfSome[0]), 300), slices.Repeat(some[:1], 300), api.OK)
}

func TestPiecesOfAWrongSize(t *testing.T) {
	first, last := piece(ownOfSome[1]), piece(ownOfSome[3])
	for i := range some {
		own := ownOfSome[i]
		wrongs := []string{
			four(0),
			four(0) + own,
			four(len(own)+1) + own,
			four(len(own)-1) + own,
			four(len(own)+4) + own,
			four(len(own)+256) + own,
			four(len(own)+1<<24) + own,
			four(1<<31-1) + own,
			four(1<<31) + own,
			four(1<<32-1) + own,
			"\xff\xff\xff\xff",
			two(len(own)) + own,
			four(0) + piece(own),
			piece(own) + four(0),
		}
		for n := range 4 {
			wrongs = append(wrongs, piece(own)+"\x00\x00\x00\x00"[:n+1], piece(own)+"\xff\xff\xff\xff"[:n+1], "\x00\x00\x00\x00"[:n+1])
			wrongs = append(wrongs, piece(own)[n+1:], four(len(own))[:n]+own)
		}
		for _, b := range wrongs {
			checkNoRecords(t, b)
			checkNoRecords(t, first+b)
			checkNoRecords(t, first+last+b)
			checkNoRecords(t, b+first)
			checkNoRecords(t, from1to2+b)
		}
	}
}

func TestPiecesThatAreNotARecord(t *testing.T) {
	first, last := piece(ownOfSome[1]), piece(ownOfSome[3])
	for i := range some {
		own := ownOfSome[i]
		wrongs := []string{own + "x", own + "\x00", own + own, own + piece(own), "\x00" + own, own[1:], "x" + own}
		for n := range own {
			wrongs = append(wrongs, own[:n])
		}
		wrongs = append(wrongs, "x", "\x00", "not a record", strings.Repeat("\x00", 10), strings.Repeat("\x00", 12), strings.Repeat("\xff", 40))
		for _, s := range wrongs {
			checkNoRecords(t, piece(s))
			checkNoRecords(t, first+piece(s)+last)
			checkNoRecords(t, piece(s)+first+last)
			checkNoRecords(t, first+last+piece(s))
			checkNoEntry(t, from1to2+first+piece(s))
			checkNoEntry(t, from1to2[:11]+"\x01"+piece(s)+first)
		}
	}
	checkRecords(t, piece(strings.Repeat("\x00", 11)), list(rr(root, 0, 0, 0, "")), api.OK)
}

// The bytes of records that are not valid, as far as they can be written.
func TestPiecesOfRecordsThatAreNotValid(t *testing.T) {
	first := piece(ownOfSome[1])
	for _, r := range wrong {
		if r.Type != r.Type&65535 || r.Class != r.Class&65535 || r.TTL != r.TTL&maxTTL || len(r.Data) > maxData || r == (api.RR{}) {
			continue
		}
		if r.Name == "\x01a" || strings.HasSuffix(r.Data, pointer(0)) {
			continue // followed by a number or led by a pointer these are others
		}
		b := piece(r.Name + two(r.Type) + two(r.Class) + four(r.TTL) + two(len(r.Data)) + r.Data)
		checkNoRecords(t, b)
		checkNoRecords(t, first+b)
		checkNoRecords(t, b+first)
		checkNoEntry(t, from1to2+b)
		checkNoEntry(t, from1to2[:11]+"\x01"+b)
	}
}

// Each piece is a message of its own: a pointer leads to an offset in it, and to no byte of another piece.
func TestPiecesWithPointers(t *testing.T) {
	head := "\x00\x02\x00\x01\x00\x00\x00\x05"
	ofData := func(data string) string { return piece("\x01x\x01a\x00" + head + two(len(data)) + data) }
	ofName := func(n string) string { return piece(n + head + "\x00\x03\x01n\x00") }
	first := piece(ownOfSome[1])
	for _, w := range []struct{ b, data string }{
		{ofData("\x01x\x01a\x00"), "\x01x\x01a\x00"}, // as Own doesn't write it
		{ofData(pointer(0)), "\x01x\x01a\x00"},
		{ofData(pointer(2)), "\x01a\x00"},
		{ofData(pointer(4)), "\x00"},
		{ofData("\x01n" + pointer(2)), "\x01n\x01a\x00"},
		{ofData("\x01n" + pointer(0)), "\x01n\x01x\x01a\x00"},
		{ofData(pointer(5)), "\x00"}, // the high byte of the type
		{ofData(pointer(13)), "\x00"},
	} {
		want := rr("\x01x\x01a\x00", ns, in, 5, w.data)
		checkRecords(t, w.b, list(want), api.OK)
		checkRecords(t, first+w.b, list(some[1], want), api.OK)
		checkRecords(t, w.b+first+w.b, list(want, some[1], want), api.OK)
		checkOf(t, from1to2+first+w.b, change(1, 2, nil, list(some[1], want)), api.OK)
		checkOf(t, from1to2[:11]+"\x01"+w.b+first, change(1, 2, list(want), list(some[1])), api.OK)
	}
	wrongs := []string{ofData(pointer(15)), ofData(pointer(16)), ofData(pointer(17)), ofData(pointer(40)), ofData(pointer(0x3fff)), ofData("\x01n" + pointer(15)), ofData(pointer(0) + "\x00")}
	for _, to := range []int{0, 1, 2, 3, 4, 19, 21, 23, 0x3fff} {
		wrongs = append(wrongs, ofName(pointer(to)), ofName("\x01x"+pointer(to)), ofName("\x01x\x01a"+pointer(to)))
	}
	for _, b := range wrongs {
		checkNoRecords(t, b)
		checkNoRecords(t, first+b)
		checkNoRecords(t, first+first+b+first)
		checkNoEntry(t, from1to2+first+b)
		checkNoEntry(t, from1to2[:11]+"\x01"+first+b)
	}
	srvData := piece("\x01x\x01a\x00\x00\x21\x00\x01\x00\x00\x00\x05\x00\x08ABCDEF" + pointer(0))
	checkNoRecords(t, srvData)
	plain := "\x01x\x01a\x00\x00\x02\x00\xff\x00\x00\x00\x00\x00\x02" + pointer(0)
	checkRecords(t, piece(plain), list(rr("\x01x\x01a\x00", ns, anyClass, 0, pointer(0))), api.OK)
}

func TestATTLThatIsTooGreat(t *testing.T) {
	for ttl, want := range map[string]int{"\x7f\xff\xff\xff": maxTTL, "\x80\x00\x00\x00": 0, "\x80\x00\x00\x05": 0, "\xff\xff\xff\xff": 0, "\x00\x00\x00\x00": 0} {
		b := piece("\x01a\x00\x00\x01\x00\x01" + ttl + "\x00\x04abcd")
		checkRecords(t, b, list(rr(apex, a, in, want, "abcd")), api.OK)
		checkOf(t, from1to2+b, change(1, 2, nil, list(rr(apex, a, in, want, "abcd"))), api.OK)
	}
}

// spoiled passes b with one byte changed, left out or put in, everywhere.
func spoiled(b string, visit func(s string)) {
	for i := range len(b) + 1 {
		for _, c := range []byte{0, 1, 2, 3, 4, 17, 'a', 0x7f, 0x80, 0xc0, 0xff} {
			visit(b[:i] + string([]byte{c}) + b[i:])
			if i < len(b) {
				visit(b[:i] + string([]byte{c}) + b[i+1:])
			}
		}
		if i < len(b) {
			visit(b[:i] + b[i+1:])
			for _, by := range []int{-2, -1, 1, 2} {
				visit(b[:i] + string([]byte{b[i] + byte(by)}) + b[i+1:])
			}
		}
		visit(b[:i])
		visit(b[i:])
	}
}

func TestSpoiledPieces(t *testing.T) {
	for _, i := range []int{0, 3, 5, 8} {
		b := piece(ownOfSome[1]) + piece(ownOfSome[i]) + piece(ownOfSome[7])
		spoiled(b, func(s string) {
			want, e := modelRecords(s)
			checkRecords(t, s, want, e)
		})
	}
}

// P17.2

func TestBytesWithoutRecords(t *testing.T) {
	checkBoth(t, change(1, 2, nil, nil), from1to2)
	checkBoth(t, change(1, 2, []api.RR{}, []api.RR{}), from1to2)
	checkBoth(t, entry.Entry{}, strings.Repeat("\x00", 12))
	if b, e := entry.Bytes(entry.Entry{From: 1, To: 2}); b != from1to2 || e != api.OK {
		t.Errorf("%q, %d", b, e)
	}
	x, e := entry.Of(from1to2)
	if e != api.OK || x.From != 1 || x.To != 2 || len(x.Del) != 0 || len(x.Add) != 0 {
		t.Errorf("%s, %d", toldEntries(x), e)
	}
}

func TestBytesOfRecords(t *testing.T) {
	head := "\x00\x00\x00\x01\x00\x00\x00\x02"
	for i, r := range some {
		b := piece(ownOfSome[i])
		checkBoth(t, change(1, 2, list(r), nil), head+"\x00\x00\x00\x01"+b)
		checkBoth(t, change(1, 2, nil, list(r)), head+"\x00\x00\x00\x00"+b)
		for j, s := range some {
			c := piece(ownOfSome[j])
			checkBoth(t, change(1, 2, list(r), list(s)), head+"\x00\x00\x00\x01"+b+c)
			checkBoth(t, change(1, 2, list(r, s), nil), head+"\x00\x00\x00\x02"+b+c)
			checkBoth(t, change(1, 2, nil, list(r, s)), head+"\x00\x00\x00\x00"+b+c)
			checkBoth(t, change(1, 2, list(r, s, r), list(s, s)), head+"\x00\x00\x00\x03"+b+c+b+c+c)
		}
	}
	checkBoth(t, change(1, 2, some, some), head+four(len(some))+allPieces()+allPieces())
}

// The order of the records is kept, whatever it is, and so are records that occur several times.
func TestTheOrderOfTheRecords(t *testing.T) {
	random := rand.New(rand.NewSource(1))
	for range 200 {
		x := entry.Entry{From: 1, To: 2}
		for range random.Intn(12) {
			x.Del = append(x.Del, some[random.Intn(len(some))])
		}
		for range random.Intn(12) {
			x.Add = append(x.Add, some[random.Intn(len(some))])
		}
		b, e := modelBytes(x)
		if e != api.OK {
			t.Fatalf("the model of %s: %d", toldEntries(x), e)
		}
		checkBoth(t, x, b)
	}
}

// serials are numbers whose bytes differ, and the first and last ones.
var serials = []uint32{0, 1, 2, 255, 256, 65536, 0x01020304, 1<<31 - 1, 1 << 31, 1<<31 + 1, 0xfffefdfc, math.MaxUint32 - 1, math.MaxUint32}

func TestTheSerials(t *testing.T) {
	for _, from := range serials {
		for _, to := range serials { // the same one, and the first one after the second one too
			head := four(int(from)) + four(int(to))
			checkBoth(t, change(from, to, nil, nil), head+"\x00\x00\x00\x00")
			checkBoth(t, change(from, to, some[:1], some[1:2]), head+"\x00\x00\x00\x01"+piece(ownOfSome[0])+piece(ownOfSome[1]))
		}
	}
	checkBoth(t, change(math.MaxUint32, 0, nil, nil), "\xff\xff\xff\xff\x00\x00\x00\x00\x00\x00\x00\x00")
	checkBoth(t, change(7, 7, nil, nil), "\x00\x00\x00\x07\x00\x00\x00\x07\x00\x00\x00\x00")
	checkBoth(t, change(0x01020304, 0xfffefdfc, nil, nil), "\x01\x02\x03\x04\xff\xfe\xfd\xfc\x00\x00\x00\x00")
}

func TestEntriesThatAreNotWellFormed(t *testing.T) {
	for _, r := range wrong {
		checkNoBytes(t, change(1, 2, list(r), nil))
		checkNoBytes(t, change(1, 2, nil, list(r)))
		checkNoBytes(t, change(1, 2, list(r), list(r)))
		checkNoBytes(t, change(1, 2, some, list(r)))
		checkNoBytes(t, change(1, 2, list(r), some))
		for i := range len(some) + 1 {
			checkNoBytes(t, change(1, 2, with(some, i, r), nil))
			checkNoBytes(t, change(1, 2, with(some, i, r), some))
			checkNoBytes(t, change(1, 2, nil, with(some, i, r)))
			checkNoBytes(t, change(1, 2, some, with(some, i, r)))
		}
	}
}

// many are n records that differ.
func many(n int) []api.RR {
	l := make([]api.RR, n)
	for i := range l {
		l[i] = rr("\x01x\x01a\x00", 99, in, i, "abcd"[:i%5])
	}
	return l
}

func TestMaxZone(t *testing.T) {
	full, over := many(maxZone), many(maxZone+1)
	checkMany(t, change(1, 2, full, nil))
	checkMany(t, change(1, 2, nil, full))
	checkMany(t, change(1, 2, full, full))
	checkMany(t, change(1, 2, full[:maxZone-1], full))
	for _, x := range []entry.Entry{change(1, 2, over, nil), change(1, 2, nil, over), change(1, 2, over, over), change(1, 2, over, full), change(1, 2, full, over), change(1, 2, over, some), change(1, 2, some, over)} {
		if b, e := entry.Bytes(x); b != "" || e != api.ErrForm {
			t.Errorf("Bytes of %d and %d records: %d bytes, %d", len(x.Del), len(x.Add), len(b), e)
		}
	}
	for _, x := range []entry.Entry{change(1, 2, with(full[1:], maxZone-1, wrong[1]), full), change(1, 2, full, with(full[1:], maxZone-1, wrong[1]))} {
		if b, e := entry.Bytes(x); b != "" || e != api.ErrForm {
			t.Errorf("Bytes with a last record that is not valid: %d bytes, %d", len(b), e)
		}
	}
}

// What Of takes has no limit of MaxZone.
func TestOfMoreThanMaxZone(t *testing.T) {
	over := many(maxZone + 2)
	pieces, e := modelPieces(over)
	if e != api.OK {
		t.Fatalf("the model: %d", e)
	}
	for _, n := range []int{0, 1, maxZone, maxZone + 1, maxZone + 2} {
		x, e := entry.Of(four(1) + four(2) + four(n) + pieces)
		if e != api.OK || !sameEntry(x, change(1, 2, over[:n], over[n:])) {
			t.Errorf("Of %d deleted ones: %d, %d and %d", n, e, len(x.Del), len(x.Add))
		}
	}
	if x, e := entry.Of(four(1) + four(2) + four(maxZone+3) + pieces); e != api.ErrForm || !sameEntry(x, entry.Entry{}) {
		t.Errorf("Of one too many deleted ones: %d, %d and %d", e, len(x.Del), len(x.Add))
	}
}

func TestTheFieldsCutShort(t *testing.T) {
	for _, b := range []string{from1to2, strings.Repeat("\x00", 12), strings.Repeat("\xff", 12), "\x00\x00\x00\x01\x00\x00\x00\x02\x00\x00\x00\x01" + piece(ownOfSome[0])} {
		for n := range 12 {
			checkNoEntry(t, b[:n])
		}
	}
	for i := range 12 { // a byte is missing, and records follow
		checkNoEntry(t, from1to2[:i]+from1to2[i+1:]+allPieces())
	}
}

func TestTheNumberOfDeletedRecords(t *testing.T) {
	for size := range len(some) + 1 {
		l, pieces := some[:size], ""
		for _, own := range ownOfSome[:size] {
			pieces += piece(own)
		}
		for n := range size + 1 {
			checkOf(t, four(1)+four(2)+four(n)+pieces, change(1, 2, l[:n], l[n:]), api.OK)
		}
		for _, n := range []int{size + 1, size + 2, size + 256, size + 65536, size + 1<<24, 1<<31 - 1, 1 << 31, 1<<31 + size, 1<<32 - 1} {
			checkNoEntry(t, four(1)+four(2)+four(n)+pieces)
		}
	}
}

func TestOfBytesTooManyOrTooFew(t *testing.T) {
	for n := range len(some) + 1 {
		b := four(1) + four(2) + four(n) + allPieces()
		checkOf(t, b, change(1, 2, some[:n], some[n:]), api.OK)
		for _, more := range []string{"x", "\x00", "\x00\x00\x00\x00", "\xff", "\x00\x00\x00\x01"} {
			checkNoEntry(t, b+more)
			checkNoEntry(t, b[:12]+more+b[12:])
			checkNoEntry(t, more+b)
		}
		taken := 0
		for i := range b {
			x, e := modelOf(b[:i])
			checkOf(t, b[:i], x, e)
			if e == api.OK {
				taken++
			}
		}
		if taken != len(some)-n { // those that end with a record, and have enough of them
			t.Errorf("the model takes %d beginnings of %s", taken, brief(b))
		}
	}
}

func TestSpoiledEntries(t *testing.T) {
	for n := range 3 {
		b := four(0x01020304) + four(0x01020305) + four(n) + piece(ownOfSome[5]) + piece(ownOfSome[6])
		spoiled(b, func(s string) {
			want, e := modelOf(s)
			checkOf(t, s, want, e)
		})
	}
}

func TestChain(t *testing.T) {
	step := func(from, to uint32) entry.Entry { return change(from, to, some[:1], some[1:]) }
	checkChain(t, true)
	if !entry.Chain(nil) || !entry.Chain([]entry.Entry{}) {
		t.Error("no entries are no chain")
	}
	for _, from := range serials {
		for _, to := range serials {
			checkChain(t, true, step(from, to))
			checkChain(t, true, step(from, to), step(to, from))
			checkChain(t, true, step(from, to), step(to, to), step(to, 5))
			checkChain(t, from == to, step(3, from), step(to, 3))
			checkChain(t, from == to, step(3, from), step(to, from), step(from, 3))
			checkChain(t, from == to, step(3, to), step(to, from), step(to, 3))
		}
	}
	checkChain(t, false, step(1, 2), step(1, 2))
	checkChain(t, false, step(2, 3), step(1, 2))
	checkChain(t, true, step(math.MaxUint32, 0), step(0, math.MaxUint32))
	checkChain(t, false, step(1, math.MaxUint32), step(0, 1))
}

// long is a chain from 100 on.
func long(n int) []entry.Entry {
	l := make([]entry.Entry, n)
	for i := range l {
		l[i] = change(uint32(100+i), uint32(101+i), nil, list(some[i%len(some)]))
	}
	return l
}

func TestAChainThatIsBrokenOnce(t *testing.T) {
	for n := 2; n < 12; n++ {
		checkChain(t, true, long(n)...)
		for i := range n {
			for _, by := range []uint32{1, math.MaxUint32, 256, 1 << 16, 1 << 24, 1 << 31} {
				l := long(n)
				l[i].From += by
				checkChain(t, i == 0, l...) // what the first one begins with is free
				l = long(n)
				l[i].To += by
				checkChain(t, i == n-1, l...) // and what the last one ends with
				l = long(n)
				l[i].From, l[i].To = l[i].From+by, l[i].To+by
				checkChain(t, false, l...)
				if i > 0 {
					checkNoSum(t, l...)
				}
			}
		}
	}
}

// P17.3

func TestSumOfNoChain(t *testing.T) {
	checkNoSum(t)
	for _, l := range [][]entry.Entry{nil, {}} {
		if x, e := entry.Sum(l); e != api.ErrGap || !sameEntry(x, entry.Entry{}) {
			t.Errorf("Sum of no entries: %s, %d", toldEntries(x), e)
		}
	}
	x, y := change(1, 2, some[:1], some[1:2]), change(2, 5, some[1:2], some[:1])
	checkLists(t, []entry.Entry{x, y}, some[:1], some[:1])
	checkNoSum(t, y, x)
	checkNoSum(t, x, x)
	checkNoSum(t, y, y)
	checkNoSum(t, x, y, x)
	checkNoSum(t, x, x, y)
	checkNoSum(t, x, y, y)
	checkNoSum(t, change(2, 1, nil, nil), y, x)
}

func TestTheSerialsOfASum(t *testing.T) {
	for _, from := range serials {
		for _, to := range serials {
			checkSum(t, []entry.Entry{change(from, to, nil, nil)}, change(from, to, nil, nil), api.OK)
			checkSum(t, []entry.Entry{change(from, 3, nil, nil), change(3, to, nil, nil)}, change(from, to, nil, nil), api.OK)
			checkSum(t, []entry.Entry{change(from, to, nil, nil), change(to, from, nil, nil)}, change(from, from, nil, nil), api.OK)
			checkSum(t, []entry.Entry{change(from, 3, nil, nil), change(3, 9, nil, nil), change(9, to, some, nil)}, change(from, to, some, nil), api.OK)
		}
	}
}

// The three records of these tests.
var x, y, z = some[0], some[1], some[3]

func TestSumOfOneEntry(t *testing.T) {
	checkLists(t, steps(nil, nil), nil, nil)
	checkLists(t, steps(list(x), nil), list(x), nil)
	checkLists(t, steps(nil, list(x)), nil, list(x))
	checkLists(t, steps(list(x, y), list(y, z)), list(x, y), list(y, z))
	checkLists(t, steps(list(y, x), list(z, y)), list(y, x), list(z, y))
	checkLists(t, steps(list(x), list(x)), list(x), list(x)) // it is deleted before it is added
	checkLists(t, steps(list(x, x), nil), list(x), nil)
	checkLists(t, steps(list(x, y, x, y, z, x), nil), list(x, y, z), nil)
	checkLists(t, steps(nil, list(x, x)), nil, list(x, x)) // what is added twice stays there twice
	checkLists(t, steps(nil, list(x, y, x, y, y)), nil, list(x, y, x, y, y))
	checkLists(t, steps(some, some), some, some)
}

func TestSumOfSeveralEntries(t *testing.T) {
	for _, w := range []struct {
		l        []entry.Entry
		del, add []api.RR
	}{
		{steps(list(x), nil, list(y), nil), list(x, y), nil},
		{steps(list(y), nil, list(x), nil), list(y, x), nil},
		{steps(nil, list(x), nil, list(y)), nil, list(x, y)},
		{steps(nil, list(y), nil, list(x)), nil, list(y, x)},
		// added and deleted again
		{steps(nil, list(x), list(x), nil), nil, nil},
		{steps(nil, list(x, y), list(x), nil), nil, list(y)},
		{steps(nil, list(x, y), list(y), nil), nil, list(x)},
		{steps(nil, list(x, y, z), list(y), nil), nil, list(x, z)},
		{steps(nil, list(x, y, z), list(z, x), nil), nil, list(y)},
		{steps(nil, list(x), nil, nil, nil, list(y), list(x), list(z)), nil, list(y, z)},
		// deleted and added again
		{steps(list(x), nil, nil, list(x)), list(x), list(x)},
		{steps(list(x, y), nil, nil, list(y, x)), list(x, y), list(y, x)},
		// added, deleted and added again: it stands where it was added last
		{steps(nil, list(x, y), list(x), list(x)), nil, list(y, x)},
		{steps(nil, list(x, y), list(x), nil, nil, list(x)), nil, list(y, x)},
		{steps(nil, list(x, y, z), list(x), list(x), list(y), list(y), list(z), list(z)), nil, list(x, y, z)},
		{steps(nil, list(x, y, z), list(x, y), list(y), nil, list(x)), nil, list(z, y, x)},
		// deleted, added and deleted again
		{steps(list(x), nil, nil, list(x), list(x), nil), list(x), nil},
		{steps(list(x), list(x), list(x), list(x)), list(x), list(x)},
		{steps(list(x), list(x), list(x), nil), list(x), nil},
		{steps(list(x), list(x), list(x, x), list(x)), list(x), list(x)},
		{steps(list(x), list(x, y), list(x, y), list(z)), list(x), list(z)},
		// deleted twice
		{steps(list(x), nil, list(x), nil), list(x), nil},
		{steps(list(x, y), nil, list(y, z, x), nil), list(x, y, z), nil},
		{steps(nil, list(x), list(x, x), nil), list(x), nil},
		{steps(nil, list(x), list(x, y, x), nil), list(y, x), nil},
		{steps(nil, list(x), list(x), nil, list(x), nil), list(x), nil},
		{steps(nil, list(x), list(x), nil, list(y, x), list(x)), list(y, x), list(x)},
		// added twice, and then deleted: all of it goes
		{steps(nil, list(x, x), list(x), nil), nil, nil},
		{steps(nil, list(x), nil, list(x), list(x), nil), nil, nil},
		{steps(nil, list(x, y, x), nil, list(z, x), list(x), nil), nil, list(y, z)},
		{steps(nil, list(x, y, x), list(x), list(x, z, x)), nil, list(y, x, z, x)},
		{steps(nil, list(x, x, x), list(x), list(x)), nil, list(x)},
		{steps(nil, list(x), list(x), list(x, x)), nil, list(x, x)},
		{steps(nil, list(x, x), list(x, x), nil), list(x), nil},
		{steps(nil, list(x, y, x, y), list(x), list(y, x), list(y), list(x)), nil, list(x, x)},
		// deleted within the entry that adds it
		{steps(list(x), list(x), nil, nil), list(x), list(x)},
		{steps(nil, list(x), list(x), list(x)), nil, list(x)},
		{steps(nil, list(x, y), list(x), list(z, x)), nil, list(y, z, x)},
		{steps(nil, list(y), list(x, y), list(y, x)), list(x), list(y, x)},
	} {
		checkLists(t, w.l, w.del, w.add)
		want, _ := modelSum(w.l)
		checkList(t, "the model's deleted ones", want.Del, w.del)
		checkList(t, "the model's added ones", want.Add, w.add)
	}
}

// others are records that differ from r in one field only; the first ones are equal to it by layer 11.
func others(r api.RR) []api.RR {
	l := slices.Repeat(list(r), 7)
	l[0].TTL++
	l[1].Name = swap(r.Name)
	l[2].Data = swap(r.Data)
	l[3].Name = "\x01y" + r.Name
	l[4].Type++
	l[5].Class++
	l[6].Data += "z"
	return l
}

// A record that differs in one field is another one, also if layer 11 calls it equal.
func TestEqualRecordsThatAreNotTheSame(t *testing.T) {
	r := rr("\x01x\x01a\x00", ns, in, 5, "\x01n\x01a\x00")
	for i, s := range others(r) {
		if record.One(r, s) != (i < 3) || r == s {
			t.Errorf("%s and %s", told(r), told(s))
		}
		checkLists(t, steps(nil, list(r), list(s), nil), list(s), list(r))
		checkLists(t, steps(nil, list(s), list(r), nil), list(r), list(s))
		checkLists(t, steps(nil, list(r, s), list(r), nil), nil, list(s))
		checkLists(t, steps(nil, list(r, s), list(s), nil), nil, list(r))
		checkLists(t, steps(nil, list(s, r, s), list(s), list(r)), nil, list(r, r))
		checkLists(t, steps(list(r, s), nil, list(s, r), nil), list(r, s), nil)
		checkLists(t, steps(list(s), list(r), list(r), list(s)), list(s), list(s))
		checkLists(t, steps(list(s), list(r), list(s), nil), list(s), list(r))
		checkLists(t, steps(list(r), list(s), list(s), list(s)), list(r), list(s))
	}
	all := append(others(r), r)
	checkLists(t, steps(nil, all, all, nil), nil, nil)
	checkLists(t, steps(all, nil, all, all), all, all)
	for i, s := range all {
		checkLists(t, steps(nil, all, list(s), nil), nil, slices.Delete(slices.Clone(all), i, i+1))
		checkLists(t, steps(all, nil, list(s), nil), all, nil)
	}
}

// Sum asks for a chain, but not for entries that are well formed.
func TestSumOfRecordsThatAreNotValid(t *testing.T) {
	for _, r := range wrong {
		checkLists(t, steps(list(r), list(x)), list(r), list(x))
		checkLists(t, steps(list(x), list(r), list(r), list(y)), list(x), list(y))
		checkLists(t, steps(list(r, r), list(r)), list(r), list(r))
	}
	checkLists(t, steps(nil, wrong, wrong, nil), nil, nil)
	checkLists(t, steps(wrong, wrong), wrong, wrong)
}

// The SOA is what every entry of a store deletes and adds.
func TestSumOfUpdates(t *testing.T) {
	random := rand.New(rand.NewSource(2))
	version := func(n int) api.RR { return rr(apex, soa, in, 5, root+root+four(n)+numbers[4:]) }
	l, want := []entry.Entry{}, []api.RR{}
	for i := range 2000 {
		r := rr("\x01x\x01a\x00", 99, in, i, "")
		del, add := list(version(i)), list(version(i+1), r)
		want = append(want, r)
		if j := random.Intn(2 * len(want)); j < len(want)-1 { // the last one is added after this
			del = append(del, want[j])
			want = slices.Delete(want, j, j+1)
		}
		l = append(l, change(uint32(i), uint32(i+1), del, add))
	}
	want = with(want, len(want)-1, version(2000))
	checkLists(t, l, list(version(0)), want)
}

// lists are all lists of up to two of the records.
func lists(records ...api.RR) [][]api.RR {
	all := [][]api.RR{nil}
	for _, r := range records {
		all = append(all, list(r))
		for _, s := range records {
			all = append(all, list(r, s))
		}
	}
	return all
}

func TestAllShortSums(t *testing.T) {
	three, two := lists(x, y, z), lists(x, y)
	for _, d := range three {
		for _, k := range three {
			for _, d2 := range three {
				checkSumModel(t, steps(nil, k, d, d2))
				for _, k2 := range three {
					l := steps(d, k, d2, k2)
					got, e := entry.Sum(l)
					if want, _ := modelSum(l); e != api.OK || !sameEntry(got, want) {
						t.Errorf("Sum of %s: %s, %d; want %s", toldEntries(l...), toldEntries(got), e, toldEntries(want))
					}
				}
			}
		}
	}
	for _, k := range two {
		for _, d2 := range two {
			for _, k2 := range two {
				for _, d3 := range two {
					for _, k3 := range two {
						l := steps(list(x), k, d2, k2, d3, k3)
						got, e := entry.Sum(l)
						if want, _ := modelSum(l); e != api.OK || !sameEntry(got, want) {
							t.Errorf("Sum of %s: %s, %d; want %s", toldEntries(l...), toldEntries(got), e, toldEntries(want))
						}
					}
				}
			}
		}
	}
}

func TestRandomSums(t *testing.T) {
	random := rand.New(rand.NewSource(3))
	records := append(others(y), x, y, z)
	pick := func(most int) []api.RR {
		l := []api.RR{}
		for range random.Intn(most) {
			l = append(l, records[random.Intn(len(records))])
		}
		return l
	}
	for range 3000 {
		n := random.Intn(9)
		l := []entry.Entry{}
		for i := range n {
			l = append(l, change(uint32(i), uint32(i+1), pick(5), pick(6)))
		}
		if random.Intn(8) == 0 && n > 0 {
			l[random.Intn(n)].From++
		}
		checkSumModel(t, l)
	}
}

func TestSumOfLongLists(t *testing.T) {
	full := many(maxZone)
	reversed := slices.Clone(full)
	slices.Reverse(reversed)
	for _, w := range []struct {
		l        []entry.Entry
		del, add []api.RR
	}{
		{steps(full, full), full, full},
		{steps(nil, full, full, nil), nil, nil},
		{steps(nil, full, reversed, reversed), nil, reversed},
		{steps(nil, full, full[1:], nil), nil, full[:1]},
		{steps(full, nil, reversed, full), full, full},
		{steps(full, full, full, reversed, full, nil), full, nil},
	} {
		got, e := entry.Sum(w.l)
		if e != api.OK || !slices.Equal(got.Del, w.del) || !slices.Equal(got.Add, w.add) {
			t.Errorf("the sum of %d entries has %d and %d records, %d; want %d and %d", len(w.l), len(got.Del), len(got.Add), e, len(w.del), len(w.add))
		}
	}
}

// P17.4

// randomName has one of a few labels at each place, so that names occur again.
func randomName(random *rand.Rand) string {
	if random.Intn(20) == 0 {
		return longest
	}
	labels := []string{}
	for range random.Intn(4) {
		labels = append(labels, []string{"a", "a", "a", "b", "A", "\x00\xff.", "*"}[random.Intn(7)])
	}
	return wire(labels...)
}

func randomBytes(random *rand.Rand, n int) string {
	b := make([]byte, n)
	random.Read(b)
	return string(b)
}

func randomData(random *rand.Rand, typ int) string {
	switch typ {
	case a:
		return randomBytes(random, 4)
	case aaaa:
		return randomBytes(random, 16)
	case ns, cname, ptr:
		return randomName(random)
	case mx:
		return randomBytes(random, 2) + randomName(random)
	case soa:
		return randomName(random) + randomName(random) + randomBytes(random, 20)
	case txt:
		return "\x02ab" + strings.Repeat("\x00", random.Intn(3))
	case srv:
		return randomBytes(random, 6) + randomName(random)
	}
	return randomBytes(random, random.Intn(9))
}

func randomRecord(random *rand.Rand) api.RR {
	types := []int{a, ns, cname, soa, ptr, mx, txt, aaaa, srv, 0, 99, 255, 65535}
	classes := []int{in, in, in, none, none, anyClass, 0, 65535}
	ttls := []int{0, 1, 5, 256, maxTTL - 1, maxTTL}
	r := rr(randomName(random), types[random.Intn(len(types))], classes[random.Intn(len(classes))], ttls[random.Intn(len(ttls))], "")
	r.Data = randomData(random, r.Type)
	if r.Class != in && random.Intn(3) == 0 {
		r.Data = ""
	} else if r.Class != in && r.Class != none {
		r.Data = randomBytes(random, random.Intn(9))
	}
	return r
}

func randomEntry(random *rand.Rand) entry.Entry {
	x := change(serials[random.Intn(len(serials))], random.Uint32(), nil, nil)
	for range random.Intn(5) {
		x.Del = append(x.Del, randomRecord(random))
	}
	for range random.Intn(5) {
		x.Add = append(x.Add, randomRecord(random))
	}
	return x
}

func TestRandomRecordsAreReadBack(t *testing.T) {
	random := rand.New(rand.NewSource(4))
	pointers := 0
	for range 20000 {
		r := randomRecord(random)
		want, e := modelOwn(r)
		if e != api.OK {
			t.Fatalf("%s is not valid", told(r))
		}
		checkOwn(t, r, want)
		checkRecords(t, piece(want), list(r), api.OK)
		if len(want) < len(r.Name)+10+len(r.Data) {
			pointers++
		}
	}
	if pointers < 500 {
		t.Errorf("only %d records with a pointer", pointers)
	}
}

func TestRandomEntriesAreReadBack(t *testing.T) {
	random := rand.New(rand.NewSource(5))
	for range 5000 {
		x := randomEntry(random)
		b, e := modelBytes(x)
		if e != api.OK {
			t.Fatalf("%s is not well formed", toldEntries(x))
		}
		checkBoth(t, x, b)
		pieces, _ := modelPieces(slices.Concat(x.Del, x.Add))
		checkRecords(t, pieces, slices.Concat(x.Del, x.Add), api.OK)
	}
}

func TestRandomSpoiledEntries(t *testing.T) {
	random := rand.New(rand.NewSource(6))
	for range 20000 {
		b, _ := modelBytes(randomEntry(random))
		s := []byte(b)
		for range 1 + random.Intn(2) {
			i := random.Intn(len(s))
			switch random.Intn(3) {
			case 0:
				s[i] = byte(random.Intn(256))
			case 1:
				s[i] ^= 1 << random.Intn(8)
			case 2:
				s = slices.Insert(s, i, byte(random.Intn(4)))
			}
		}
		want, e := modelOf(string(s))
		checkOf(t, string(s), want, e)
	}
}

// The entry of the sum is read back, as that of any other one.
func TestASumIsReadBack(t *testing.T) {
	random := rand.New(rand.NewSource(7))
	for range 500 {
		l := []entry.Entry{}
		for i := range 1 + random.Intn(5) {
			x := randomEntry(random)
			x.From, x.To = uint32(i), uint32(i+1)
			if i > 0 && random.Intn(2) == 0 {
				x.Del = slices.Concat(l[i-1].Add, x.Del)
			}
			l = append(l, x)
		}
		sum, e := entry.Sum(l)
		if e != api.OK {
			t.Fatalf("Sum of %s: %d", toldEntries(l...), e)
		}
		b, e := modelBytes(sum)
		if e != api.OK {
			t.Fatalf("%s is not well formed", toldEntries(sum))
		}
		checkBoth(t, sum, b)
	}
}

// What was returned earlier stays as it is, whatever is called afterwards.
func TestEarlierAnswers(t *testing.T) {
	b, _ := modelBytes(change(1, 2, some, some))
	early, _ := entry.Of(b)
	records, _ := entry.Records(allPieces())
	sum, _ := entry.Sum([]entry.Entry{early, change(2, 3, some[:3], some)})
	for i, r := range some {
		entry.Own(r)
		entry.Bytes(change(uint32(i), 2, list(r), early.Add))
		entry.Of(b)
		entry.Records(allPieces())
		entry.Sum([]entry.Entry{early, change(2, 3, list(r), some)})
		entry.Sum([]entry.Entry{sum, change(3, 4, sum.Add, sum.Del)})
	}
	checkList(t, "deleted", early.Del, some)
	checkList(t, "added", early.Add, some)
	checkList(t, "records", records, some)
	checkList(t, "the sum's deleted ones", sum.Del, some)
	checkList(t, "the sum's added ones", sum.Add, slices.Concat(some[3:], some))
}
