package log_test

import (
	"fmt"
	"math"
	"math/rand"
	"slices"
	"strconv"
	"strings"
	"testing"

	"beadroll/api"
	"beadroll/disk"
	"beadroll/entry"
	"beadroll/log"
)

const (
	a   = 1
	ns  = 2
	soa = 6
	mx  = 15
	in  = 1

	apex = "\x01a\x00"
	// lots is a quota that no test exhausts.
	lots = 1 << 40
)

// frame1to2 is the frame of the entry without records from 1 to 2.
const frame1to2 = "\x00\x00\x00\x0c" + "\x1b\xba\xb5\x8d" + "\x00\x00\x00\x01\x00\x00\x00\x02\x00\x00\x00\x00"

// frame2to3 is the frame of an entry from 2 to 3 that deletes one record and adds another one, whose name is a pointer.
const frame2to3 = "\x00\x00\x00\x36" + "\xe6\xfc\xa9\x70" + "\x00\x00\x00\x02\x00\x00\x00\x03\x00\x00\x00\x01" +
	"\x00\x00\x00\x11" + "\x01a\x00" + "\x00\x01\x00\x01\x00\x00\x00\x05\x00\x04abcd" +
	"\x00\x00\x00\x11" + "\x01a\x00" + "\x00\x0f\x00\x01\x00\x00\x00\x05\x00\x04\x00\x0a\xc0\x00"

var (
	entry1to2 = step(1, 2, nil, nil)
	entry2to3 = step(2, 3, list(rr(apex, a, in, 5, "abcd")), list(rr(apex, mx, in, 5, "\x00\x0a"+apex)))
)

// foreign and foreignEntry stand in the spare capacity of what is handed in, and scribble is written over what was handed in or returned.
var (
	foreign       = rr("\x07foreign\x00", 9, 9, 77777, "foreign")
	scribble      = rr("\x08scribble\x00", 8, 8, 77777, "scribble")
	scribbleEntry = step(77, 777, list(scribble), list(scribble))
)

// several is a chain with entries of each kind, whose serials wrap around, stay and go back.
var several = []entry.Entry{
	step(4294967294, 4294967295, nil, nil),
	step(4294967295, 0, nil, list(rr(apex, a, in, 5, "abcd"))),
	step(0, 1, list(rr(apex, a, in, 5, "abcd")), nil),
	step(1, 1, list(rr(apex, soa, in, 5, apex+apex+"ABCDEFGHIJKLMNOPQRST")), list(rr(apex, soa, in, 5, apex+apex+"ABCDFGHIJKLMNOPQRSTU"))),
	step(1, 5, list(rr(apex, 99, in, 0, ""), rr(apex, 99, in, 0, "")), list(rr("\x01X\x01a\x00", ns, in, 2147483647, apex), rr("\x00", 300, 255, 0, "\xff"), rr("\x01*\x01a\x00", a, 254, 0, ""))),
	step(5, 3, list(rr("\x01b\x01a\x00", 65535, 65535, 1, strings.Repeat("z", 100))), nil),
}

// files are some that a journal has nothing to do with, although their names resemble its own.
var files = []string{"a", "image", "image-tmp", "log", "log-", "log-0", "log-05", "log-4", "log-50", "log-55", "log-tm", "log-tmp5", "log5", "LOG-5", "log-5 ", "log-5-tmp", "log-tmp "}

func rr(n string, typ, class, ttl int, data string) api.RR {
	return api.RR{Name: n, Type: typ, Class: class, TTL: ttl, Data: data}
}

func list(l ...api.RR) []api.RR {
	return l
}

func step(from, to uint32, del, add []api.RR) entry.Entry {
	return entry.Entry{From: from, To: to, Del: del, Add: add}
}

func framesOf(t *testing.T, l ...entry.Entry) string {
	t.Helper()
	var s strings.Builder
	for _, x := range l {
		s.WriteString(modelFrame(bytesOf(t, x)))
	}
	return s.String()
}

func bytesOf(t *testing.T, x entry.Entry) string {
	t.Helper()
	b, e := entry.Bytes(x)
	do(t, e)
	return b
}

func newDisk(t *testing.T, quota int) *disk.Disk {
	t.Helper()
	d, e := disk.New(quota)
	do(t, e)
	return d
}

// do expects calls without an error.
func do(t *testing.T, errors ...api.Errno) {
	t.Helper()
	for i, e := range errors {
		if e != api.OK {
			t.Fatalf("call %d: %d", i, e)
		}
	}
}

// put writes a file that no restart loses.
func put(t *testing.T, d *disk.Disk, file, b string) {
	t.Helper()
	do(t, d.Append(file, b), d.Sync(file), d.SyncDir())
}

func brief(s string) string {
	if len(s) > 1000 {
		return fmt.Sprintf("%s.. (%d bytes)", s[:1000], len(s))
	}
	return s
}

func toldRecords(l []api.RR) string {
	s := fmt.Sprintf("%d:", len(l))
	for _, r := range l[:min(len(l), 3)] {
		s += fmt.Sprintf(" %q %d %d %d %q", r.Name, r.Type, r.Class, r.TTL, r.Data[:min(len(r.Data), 60)])
	}
	return s
}

func told(l ...entry.Entry) string {
	s := fmt.Sprintf("%d entries:", len(l))
	for _, x := range l[:min(len(l), 12)] {
		s += fmt.Sprintf(" {from %d to %d; deleted %s; added %s}", x.From, x.To, toldRecords(x.Del), toldRecords(x.Add))
	}
	return brief(s)
}

func sameEntry(x, y entry.Entry) bool {
	return x.From == y.From && x.To == y.To && slices.Equal(x.Del, y.Del) && slices.Equal(x.Add, y.Add)
}

func sameEntries(l, m []entry.Entry) bool {
	return slices.EqualFunc(l, m, sameEntry)
}

// clone is a copy that shares nothing.
func clone(l []entry.Entry) []entry.Entry {
	var m []entry.Entry
	for _, x := range l {
		m = append(m, step(x.From, x.To, slices.Clone(x.Del), slices.Clone(x.Add)))
	}
	return m
}

// spare is a copy of a list with foreign records in its spare capacity.
func spare(l []api.RR) []api.RR {
	return append(slices.Clone(l), foreign, foreign, foreign)[:len(l)]
}

func isSpare(l []api.RR) bool {
	return slices.Equal(l[len(l):len(l)+3], list(foreign, foreign, foreign))
}

// given is an entry that is handed in, with spare capacity in its lists.
type given struct {
	x, before entry.Entry
}

func give(x entry.Entry) given {
	return given{step(x.From, x.To, spare(x.Del), spare(x.Add)), x}
}

// add hands the entry in, checks that it stays as it is, and then writes over it.
func (g given) add(t *testing.T, l *log.Log) api.Errno {
	t.Helper()
	e := l.Add(g.x)
	if !sameEntry(g.x, g.before) || !isSpare(g.x.Del) || !isSpare(g.x.Add) {
		t.Errorf("Add changed what was handed in: %s; before %s", told(g.x), told(g.before))
	}
	spoil(g.x)
	return e
}

// spoil writes over the lists of an entry, and what capacity they have.
func spoil(x entry.Entry) {
	for _, l := range [][]api.RR{x.Del[:cap(x.Del)], x.Add[:cap(x.Add)]} {
		for i := range l {
			l[i] = scribble
		}
	}
}

// checkApart checks that no list of the entries that were returned reaches into another one, and writes over all of them.
func checkApart(t *testing.T, l []entry.Entry) {
	t.Helper()
	want := clone(l)
	for i := range l {
		for _, r := range [][]api.RR{l[i].Del, l[i].Add} {
			_ = append(r, scribble, scribble, scribble)
		}
		if !sameEntries(l, want) {
			t.Fatalf("entry %d's lists reach into others: %s; want %s", i, told(l...), told(want...))
		}
	}
	for i, x := range l {
		spoil(step(0, 0, x.Del, nil))
		if !slices.Equal(x.Add, want[i].Add) {
			t.Fatalf("entry %d's deleted records reach into the added ones", i)
		}
		spoil(x)
		if !sameEntries(l[i+1:], want[i+1:]) {
			t.Fatalf("entry %d's lists reach into later ones", i)
		}
	}
	l = l[:cap(l)]
	for i := range l {
		l[i] = scribbleEntry
	}
}

// checkLog asks twice, and writes over the first answer.
func checkLog(t *testing.T, l *log.Log, gen uint64, want []entry.Entry, size int) {
	t.Helper()
	for range 2 {
		got := l.Entries()
		if !sameEntries(got, want) {
			t.Errorf("Entries: %s; want %s", told(got...), told(want...))
		}
		checkApart(t, got)
		if l.Size() != size || l.Gen() != gen {
			t.Errorf("Size %d, Gen %d; want %d, %d", l.Size(), l.Gen(), size, gen)
		}
	}
}

// checkOpen opens the journal of a generation that has these entries.
func checkOpen(t *testing.T, d *disk.Disk, gen uint64, want ...entry.Entry) *log.Log {
	t.Helper()
	l, e := log.Open(d, gen)
	if l == nil || e != api.OK {
		t.Fatalf("Open(%d): %v, %d; want %s", gen, l, e, told(want...))
	}
	checkLog(t, l, gen, want, len(framesOf(t, want...)))
	return l
}

func checkNoLog(t *testing.T, d *disk.Disk, gen uint64, want api.Errno) {
	t.Helper()
	if l, e := log.Open(d, gen); l != nil || e != want {
		t.Errorf("Open(%d): %v, %d; want %d", gen, l, e, want)
	}
}

// checkQuiet opens the journal once more, and checks that this changes nothing of the disk.
func checkQuiet(t *testing.T, d *disk.Disk, gen uint64, want ...entry.Entry) {
	t.Helper()
	do(t, d.Break(1))
	before := filesOf(d)
	checkOpen(t, d, gen, want...)
	if after := filesOf(d); after != before {
		t.Errorf("opening a journal without a rest changed the disk: %s\nbefore %s", brief(after), brief(before))
	}
	d.Restart("\xff")
}

func checkAdd(t *testing.T, l *log.Log, x entry.Entry, want api.Errno) {
	t.Helper()
	entries, size, gen := l.Entries(), l.Size(), l.Gen()
	before := clone(entries)
	if e := give(x).add(t, l); e != want {
		t.Errorf("Add(%s): %d; want %d", told(x), e, want)
	}
	if !sameEntries(entries, before) {
		t.Errorf("Add changed what Entries had returned: %s; before %s", told(entries...), told(before...))
	}
	if want == api.OK {
		before = append(before, x)
		size += 8 + len(bytesOf(t, x))
	}
	checkLog(t, l, gen, before, size)
}

// checkAdds adds entries to a journal.
func checkAdds(t *testing.T, l *log.Log, entries ...entry.Entry) {
	t.Helper()
	for _, x := range entries {
		checkAdd(t, l, x, api.OK)
	}
}

// checkFiles compares the files of a disk with names and bytes by turns, in ascending order.
func checkFiles(t *testing.T, d *disk.Disk, want ...string) {
	t.Helper()
	names, e := d.List()
	do(t, e)
	var got []string
	for _, n := range names {
		b, e := d.Read(n)
		do(t, e)
		got = append(got, n, b)
	}
	if !slices.Equal(got, want) {
		t.Errorf("the files are %s; want %s", brief(fmt.Sprintf("%q", got)), brief(fmt.Sprintf("%q", want)))
	}
}

// checkSafe restarts a disk that loses whatever it may.
func checkSafe(t *testing.T, d *disk.Disk, want ...string) {
	t.Helper()
	d.Restart("")
	checkFiles(t, d, want...)
}

func TestTheEntriesOfTheseTests(t *testing.T) {
	if !entry.Chain(several) || !entry.Chain([]entry.Entry{entry1to2, entry2to3}) {
		t.Error("no chain")
	}
	if framesOf(t, entry1to2) != frame1to2 {
		t.Errorf("%q", framesOf(t, entry1to2))
	}
	if framesOf(t, entry2to3) != frame2to3 {
		t.Errorf("%q", framesOf(t, entry2to3))
	}
	framesOf(t, several...)
}

// P19.1: Name

func TestName(t *testing.T) {
	for _, w := range []struct {
		gen  uint64
		want string
	}{
		{0, "log-0"},
		{1, "log-1"},
		{5, "log-5"},
		{9, "log-9"},
		{10, "log-10"},
		{99, "log-99"},
		{100, "log-100"},
		{255, "log-255"},
		{65536, "log-65536"},
		{1234567890, "log-1234567890"},
		{math.MaxInt32 + 1, "log-2147483648"},
		{math.MaxUint32, "log-4294967295"},
		{math.MaxUint32 + 1, "log-4294967296"},
		{math.MaxInt64, "log-9223372036854775807"},
		{math.MaxInt64 + 1, "log-9223372036854775808"},
		{9999999999999999999, "log-9999999999999999999"},
		{10000000000000000000, "log-10000000000000000000"},
		{math.MaxUint64 - 1, "log-18446744073709551614"},
		{math.MaxUint64, "log-18446744073709551615"},
	} {
		if got := log.Name(w.gen); got != w.want {
			t.Errorf("Name(%d) = %q", w.gen, got)
		}
	}
}

func TestNoTwoNamesAreAlike(t *testing.T) {
	random := rand.New(rand.NewSource(1))
	var gens []uint64
	for i := range uint64(3000) {
		gens = append(gens, i, math.MaxUint64-i, random.Uint64(), random.Uint64()>>(i%64))
	}
	for i := range 64 {
		gens = append(gens, 1<<i, 1<<i-1, 1<<i+1)
	}
	for ten := uint64(10); ten < math.MaxUint64/10; ten *= 10 {
		gens = append(gens, ten, ten-1, ten+1)
	}
	found := map[string]uint64{}
	for _, gen := range gens {
		n := log.Name(gen)
		if other, ok := found[n]; ok && other != gen {
			t.Errorf("Name(%d) and Name(%d) are %q", gen, other, n)
		}
		found[n] = gen
		if back, err := strconv.ParseUint(strings.TrimPrefix(n, "log-"), 10, 64); err != nil || back != gen || n[4] == '0' && gen != 0 {
			t.Errorf("Name(%d) = %q", gen, n)
		}
	}
}

// P19.1: Open without a rest

func TestOpenAnEmptyDisk(t *testing.T) {
	for _, gen := range []uint64{0, 1, 5, 10, math.MaxUint64} {
		d := newDisk(t, 0)
		checkQuiet(t, d, gen)
		checkFiles(t, d)
		do(t, d.SetQuota(lots))
		checkAdds(t, checkOpen(t, d, gen), entry1to2)
		checkFiles(t, d, log.Name(gen), frame1to2)
	}
}

func TestOpenAFileWithoutBytes(t *testing.T) {
	d := newDisk(t, 100)
	put(t, d, "log-5", "")
	put(t, d, "log-tmp", "abc")
	checkQuiet(t, d, 5)
	checkFiles(t, d, "log-5", "", "log-tmp", "abc")
	checkAdds(t, checkOpen(t, d, 5), entry1to2)
	checkSafe(t, d, "log-5", frame1to2, "log-tmp", "abc")
}

func TestOpenGoodFrames(t *testing.T) {
	d := newDisk(t, lots)
	put(t, d, "log-5", frame1to2)
	checkQuiet(t, d, 5, entry1to2)
	put(t, d, "log-5", frame2to3)
	checkQuiet(t, d, 5, entry1to2, entry2to3)
	checkFiles(t, d, "log-5", frame1to2+frame2to3)
	for n := range len(several) + 1 {
		for gen := range uint64(3) {
			d := newDisk(t, lots)
			put(t, d, log.Name(gen), framesOf(t, several[:n]...))
			checkQuiet(t, d, gen, several[:n]...)
			checkQuiet(t, d, gen+1)
			put(t, d, "log-tmp", "abc")
			checkQuiet(t, d, gen, several[:n]...)
			checkFiles(t, d, log.Name(gen), framesOf(t, several[:n]...), "log-tmp", "abc")
		}
	}
}

// countUp is a chain of n entries.
func countUp(n int) []entry.Entry {
	var l []entry.Entry
	for i := range uint32(n) {
		l = append(l, step(i, i+1, nil, list(rr(apex, 99, in, 5, fmt.Sprint(i)))))
	}
	return l
}

func TestOpenManyFrames(t *testing.T) {
	l := countUp(3000)
	d := newDisk(t, lots)
	put(t, d, "log-18446744073709551615", framesOf(t, l...))
	checkQuiet(t, d, math.MaxUint64, l...)
	put(t, d, "log-18446744073709551615", frame1to2)
	checkOpen(t, d, math.MaxUint64, l...)
	checkQuiet(t, d, math.MaxUint64, l...)
}

// The entries of a file need not be ones that Add takes: which bytes are an entry's is layer 17's Of to say.
func TestOpenEntriesThatBytesDoesNotReturn(t *testing.T) {
	plain := "\x00\x00\x00\x01\x00\x00\x00\x02\x00\x00\x00\x01" + "\x00\x00\x00\x10" + apex + "\x00\x02\x00\x01\xff\xff\xff\xff\x00\x03" + apex
	d := newDisk(t, lots)
	put(t, d, "log-5", modelFrame(plain)+frame2to3)
	l, e := log.Open(d, 5)
	do(t, e)
	checkLog(t, l, 5, []entry.Entry{step(1, 2, list(rr(apex, ns, in, 0, apex)), nil), entry2to3}, len(modelFrame(plain)+frame2to3))
	checkFiles(t, d, "log-5", modelFrame(plain)+frame2to3)
	checkAdds(t, l, step(3, 4, nil, nil))
}

func TestOpenADiskThatIsDown(t *testing.T) {
	for _, b := range []string{"", frame1to2, "abc", frame1to2 + "abc"} {
		d := newDisk(t, lots)
		put(t, d, "log-5", b)
		do(t, d.Break(0))
		checkNoLog(t, d, 5, api.ErrLost)
		checkNoLog(t, d, 4, api.ErrLost)
		checkSafe(t, d, "log-5", b)
	}
}

// P19.1: Open with a rest

// goOn are entries that continue a chain.
func goOn(l []entry.Entry, n int) []entry.Entry {
	at := uint32(7)
	if len(l) > 0 {
		at = l[len(l)-1].To
	}
	var more []entry.Entry
	for i := range uint32(n) {
		more = append(more, step(at+i, at+i+1, list(rr(apex, a, in, 5, "abcd")), list(rr(apex, a, in, 5, "abce"))))
	}
	return more
}

// notEntries are bytes that are no entry's, almost those of x.
func notEntries(t *testing.T, x entry.Entry) []string {
	b := bytesOf(t, x)
	return []string{
		"", "x", b[:4], b[:11], b[:13], b[:len(b)-1], b + "x", b + "\x00\x00\x00\x00", b + "\x00\x00\x00\x01x",
		b[:8] + four(len(x.Del)+len(x.Add)+1) + b[12:],
		b[:8] + "\xff\xff\xff\xff" + b[12:],
		b + b,
	}
}

// flipped is b with one bit changed.
func flipped(b string, at, bit int) string {
	c := []byte(b)
	c[at] ^= 1 << bit
	return string(c)
}

// restsBehind are rests of each kind behind a chain.
func restsBehind(t *testing.T, l []entry.Entry) []string {
	x := goOn(l, 1)[0]
	f := framesOf(t, x)
	rests := []string{
		"x", "abc", "1234567", "\x00", "\x00\x00\x00\x00\x00\x00\x00\x00", "\xff\xff\xff\xff\xff\xff\xff\xff",
		"\x01\x00\x00\x01" + f[4:], "\x80\x00\x00\x00" + f[4:], "\x00\x00\x00\x00\x21\x44\xdf\x1d",
	}
	for n := 1; n < len(f); n++ {
		rests = append(rests, f[:n])
	}
	for i := range f {
		rests = append(rests, flipped(f, i, i%8))
	}
	for _, b := range notEntries(t, x) {
		rests = append(rests, modelFrame(b))
	}
	if len(l) > 0 {
		for _, from := range []uint32{x.From + 1, x.From - 1, x.From ^ 1<<31, l[0].From ^ 2, 1000} {
			rests = append(rests, framesOf(t, step(from, from+1, nil, nil)))
			rests = append(rests, framesOf(t, step(from, x.From, nil, nil)))
		}
	}
	return rests
}

// checkRepair opens a journal with a rest.
func checkRepair(t *testing.T, l []entry.Entry, rest, tmp string, hasTmp bool) {
	t.Helper()
	d := newDisk(t, lots)
	if hasTmp {
		put(t, d, "log-tmp", tmp)
	}
	put(t, d, "log-5", framesOf(t, l...)+rest)
	checkOpen(t, d, 5, l...)
	checkFiles(t, d, "log-5", framesOf(t, l...))
	checkQuiet(t, d, 5, l...)
	checkSafe(t, d, "log-5", framesOf(t, l...))
	checkQuiet(t, d, 5, l...)
	checkAdds(t, checkOpen(t, d, 5, l...), goOn(l, 1)...)
	if t.Failed() {
		t.Fatalf("behind %s: the rest %s", told(l...), brief(fmt.Sprintf("%q", rest)))
	}
}

func TestOpenWithARest(t *testing.T) {
	for _, n := range []int{0, 1, 2, len(several)} {
		l := several[:n]
		good := framesOf(t, goOn(l, 3)...)
		for i, rest := range restsBehind(t, l) {
			checkRepair(t, l, rest, "", false)
			checkRepair(t, l, rest, "", true)
			checkRepair(t, l, rest, good, true)
			if rest != good[:len(good)/3] {
				checkRepair(t, l, rest+good, "abc", i%2 == 0)
				checkRepair(t, l, rest+rest+good, rest, i%2 == 1)
			}
		}
	}
}

// What is behind the rest is part of it, even if it would go on with what is before it, or with what is in it.
func TestGoodFramesBehindTheRest(t *testing.T) {
	strange := step(1000, 1001, nil, nil)
	stranger := step(1001, 1002, nil, nil)
	for n := range len(several) {
		good := framesOf(t, goOn(several[:n], 4)...)
		checkRepair(t, several[:n], "x"+good, "", false)
		checkRepair(t, several[:n], modelFrame("")+good, "", false)
		checkRepair(t, several[:n], modelFrame("not an entry")+good, good, true)
		if n > 0 {
			checkRepair(t, several[:n], framesOf(t, strange)+good, "", false)
			checkRepair(t, several[:n], framesOf(t, strange, stranger), "", true)
			checkRepair(t, several[:n], framesOf(t, strange, stranger)+good, "", true)
		}
	}
}

func TestARestBehindManyEntries(t *testing.T) {
	l := countUp(500)
	checkRepair(t, l, "x", "", false)
	checkRepair(t, l, framesOf(t, l...), "", false)
	checkRepair(t, l, framesOf(t, l[499])+framesOf(t, goOn(l, 5)...), "abc", true)
	d := newDisk(t, lots)
	b := framesOf(t, l...)
	put(t, d, "log-5", flipped(b, len(framesOf(t, l[:250]...))+9, 0))
	checkOpen(t, d, 5, l[:250]...)
	checkQuiet(t, d, 5, l[:250]...)
}

// The first error of the repair, when a file log-tmp is there already, and what the disk has then. All is safe before.
func TestErrorsOfTheRepair(t *testing.T) {
	bad, good := frame1to2+frame2to3+"abc", frame1to2+frame2to3
	for _, w := range []struct {
		changes int
		want    api.Errno
		files   []string // when all that is pending survives
	}{
		{1, api.ErrLost, []string{"log-5", bad}},
		{2, api.ErrLost, []string{"log-5", bad, "log-tmp", ""}},
		{3, api.ErrLost, []string{"log-5", bad, "log-tmp", good}},
		{4, api.ErrLost, []string{"log-5", good}},
		{5, api.OK, []string{"log-5", good}},
		{6, api.OK, []string{"log-5", good}},
	} {
		for choice := range 8 {
			d := newDisk(t, lots)
			put(t, d, "log-tmp", "old")
			put(t, d, "log-5", bad)
			do(t, d.Break(w.changes))
			l, e := log.Open(d, 5)
			if e != w.want || (l == nil) != (e != api.OK) || d.Down() != (w.changes < 6) {
				t.Errorf("Open, with a break after %d: %v, %d, down %v", w.changes, l, e, d.Down())
			}
			pending := []int{1, 2, 2, 3, 0, 0}[w.changes-1]
			d.Restart(string([]byte{byte(choice % (pending + 1))}))
			if choice%(pending+1) == pending {
				checkFiles(t, d, w.files...)
			}
			checkOpen(t, d, 5, entry1to2, entry2to3)
			checkQuiet(t, d, 5, entry1to2, entry2to3)
		}
	}
}

func TestErrorsOfTheRepairWithoutATemporaryFile(t *testing.T) {
	for changes := range 6 {
		d := newDisk(t, lots)
		put(t, d, "log-5", frame1to2+"abc")
		if changes > 0 {
			do(t, d.Break(changes))
		}
		l, e := log.Open(d, 5)
		want := api.ErrLost
		if changes == 0 || changes >= 4 {
			want = api.OK
		}
		if e != want || (l == nil) != (e != api.OK) || d.Down() != (1 <= changes && changes <= 4) {
			t.Errorf("Open, with a break after %d: %v, %d, down %v", changes, l, e, d.Down())
		}
		d.Restart("\x09\xff\xff")
		checkOpen(t, d, 5, entry1to2)
	}
}

// The bytes before the rest need room beside it, and what was in log-tmp makes room.
func TestARepairWithoutRoom(t *testing.T) {
	for _, n := range []int{0, 1, 2} {
		good := framesOf(t, several[:n]...)
		for _, tmp := range []string{"", "something"} {
			for _, short := range []int{0, 1, len(good)} {
				if short > len(good) {
					continue
				}
				d := newDisk(t, lots)
				put(t, d, "log-5", good+"abc")
				put(t, d, "log-4", "1234567890")
				put(t, d, "log-tmp", tmp)
				quota := 10 + len(good) + 3 + len(good) - short
				do(t, d.SetQuota(quota))
				if short == 0 {
					checkOpen(t, d, 5, several[:n]...)
					checkFiles(t, d, "log-4", "1234567890", "log-5", good)
					continue
				}
				checkNoLog(t, d, 5, api.ErrFull)
				checkFiles(t, d, "log-4", "1234567890", "log-5", good+"abc")
				do(t, d.SetQuota(quota+short))
				checkOpen(t, d, 5, several[:n]...)
			}
		}
	}
	d := newDisk(t, 100)
	put(t, d, "log-5", "abc")
	do(t, d.SetQuota(2))
	checkNoLog(t, d, 5, api.ErrFull)
	checkFiles(t, d, "log-5", "abc")
}

func TestNoOtherFileIsTouched(t *testing.T) {
	for _, b := range []string{"", frame1to2, "abc", frame1to2 + "abc"} {
		d := newDisk(t, lots)
		put(t, d, "log-5", b)
		put(t, d, "log-tmp", "x")
		for _, f := range files {
			put(t, d, f, f+"'s bytes")
		}
		l, e := log.Open(d, 5)
		do(t, e, l.Add(step(2, 3, nil, nil)))
		for _, f := range files {
			if got, e := d.Read(f); e != api.OK || got != f+"'s bytes" {
				t.Errorf("%s has %q, %d", f, got, e)
			}
		}
		names, _ := d.List()
		want := len(files) + 1
		if !strings.HasSuffix(b, "abc") {
			want++ // log-tmp
		}
		if len(names) != want {
			t.Errorf("the files are %q", names)
		}
	}
}

func TestTheJournalsOfOtherGenerationsAreApart(t *testing.T) {
	d := newDisk(t, lots)
	var want []string
	for gen := range uint64(9) {
		checkAdds(t, checkOpen(t, d, gen), step(uint32(gen), 50, nil, nil))
		want = append(want, log.Name(gen), framesOf(t, step(uint32(gen), 50, nil, nil)))
	}
	checkSafe(t, d, want...)
	do(t, d.Append("log-3", "x"), d.Append("log-7", "y"))
	checkOpen(t, d, 3, step(3, 50, nil, nil))
	do(t, d.Append("log-3", "x"))
	checkOpen(t, d, 7, step(7, 50, nil, nil))
	checkFiles(t, d, append(append(slices.Clone(want[:7]), want[7]+"x"), want[8:]...)...)
}

// P19.1 and P19.2: each step that a journal makes on the disk, compared with the model's, wherever the disk breaks and whatever it loses

var contents = []string{
	"", frame1to2, frame1to2 + frame2to3,
	"abc", frame1to2 + "abc", frame1to2 + frame2to3 + "abc", frame1to2 + frame1to2, frame1to2 + frame2to3[:50] + frame2to3,
}

// scenes are what is on a disk before a journal is opened; the calls at the end are not safe.
func scenes() []func(p *pair) {
	l := []func(p *pair){
		func(p *pair) {},
		func(p *pair) { p.put("log-tmp", "tmp") },
		func(p *pair) { p.put("log-4", "other"); p.both(func(d *disk.Disk) { d.Sync("log-4") }) },
	}
	for _, b := range contents {
		for _, tmp := range []string{"", "tmp"} {
			l = append(l,
				func(p *pair) { p.put("log-5", b) },
				func(p *pair) { p.put("log-tmp", tmp); p.put("log-5", b) },
				func(p *pair) { p.put("log-5", b); p.put("log-tmp", tmp) },
				func(p *pair) {
					p.put("log-5", b)
					p.put("log-tmp", tmp)
					p.both(func(d *disk.Disk) { d.Sync("log-5"); d.Sync("log-tmp"); d.SyncDir() })
				},
				func(p *pair) {
					p.put("log-5", frame1to2)
					p.put("log-tmp", tmp)
					p.both(func(d *disk.Disk) { d.Sync("log-5"); d.SyncDir() })
					p.put("log-5", b)
				},
				func(p *pair) {
					p.put("log-tmp", tmp)
					p.put("log-5", b)
					p.quota(p.d.Used() + 19)
				},
			)
		}
	}
	return l
}

func TestTheStepsOnTheDisk(t *testing.T) {
	choices := []string{"", "\x01", "\x02\x80\x40", "\x03\xff\xff", "\x00\xff\xff", "\x04\x40\x80", "\x05\xff", "\x01\xff\x80"}
	for i, scene := range scenes() {
		for n := -1; n < 10; n++ {
			for _, c := range choices {
				p := newPair(t, lots)
				scene(p)
				if n >= 0 {
					p.breakAfter(n)
				}
				p.run(t, 5)
				p.restart(c)
				p.check(t)
				p.run(t, 5)
				if t.Failed() {
					t.Fatalf("scene %d, a break after %d, and the restart %q", i, n, c)
				}
			}
		}
	}
}

// run opens a journal and adds two entries, whatever the disk does.
func (p *pair) run(t *testing.T, gen uint64) {
	t.Helper()
	p.open(t, gen)
	if p.l == nil {
		return
	}
	p.add(t, goOn(p.m.entries(), 1)[0])
	p.add(t, goOn(p.m.entries(), 1)[0])
}

// P19.2: Add

func TestAdd(t *testing.T) {
	d := newDisk(t, lots)
	l := checkOpen(t, d, 5)
	checkFiles(t, d)
	checkAdds(t, l, entry1to2)
	checkFiles(t, d, "log-5", frame1to2)
	checkAdds(t, l, entry2to3)
	checkSafe(t, d, "log-5", frame1to2+frame2to3)
	checkLog(t, l, 5, []entry.Entry{entry1to2, entry2to3}, 82)
	checkQuiet(t, d, 5, entry1to2, entry2to3)
}

func TestAddEachEntry(t *testing.T) {
	for n := range several {
		d := newDisk(t, lots)
		l := checkOpen(t, d, 7)
		for i, x := range several[n:] {
			checkAdd(t, l, x, api.OK)
			checkSafe(t, d, "log-7", framesOf(t, several[n:n+i+1]...))
			checkQuiet(t, d, 7, several[n:n+i+1]...)
		}
		checkSafe(t, d, "log-7", framesOf(t, several[n:]...))
	}
}

func TestAddMany(t *testing.T) {
	many := countUp(2000)
	d := newDisk(t, lots)
	l := checkOpen(t, d, 0)
	for _, x := range many {
		do(t, give(x).add(t, l))
	}
	checkLog(t, l, 0, many, len(framesOf(t, many...)))
	checkSafe(t, d, "log-0", framesOf(t, many...))
	checkQuiet(t, d, 0, many...)
}

// wrong are records that are not valid.
var wrong = []api.RR{
	{},
	rr("", a, in, 5, "abcd"),
	rr("a.", a, in, 5, "abcd"),
	rr(apex, -1, in, 5, "abcd"),
	rr(apex, 65536, in, 5, "abcd"),
	rr(apex, a, 65536, 5, "abcd"),
	rr(apex, a, in, -1, "abcd"),
	rr(apex, a, in, 2147483648, "abcd"),
	rr(apex, a, in, 5, "abc"),
	rr(apex, ns, in, 5, "\xc0\x00"),
	rr(apex, 99, in, 5, strings.Repeat("A", maxData+1)),
}

func TestAddWhatIsNotWellFormed(t *testing.T) {
	ok := rr(apex, a, in, 5, "abcd")
	many := slices.Repeat(list(ok), maxZone+1)
	for _, n := range []int{0, 2} {
		d := newDisk(t, lots)
		l := checkOpen(t, d, 5)
		checkAdds(t, l, several[:n]...)
		do(t, d.Break(1))
		before := filesOf(d)
		from := goOn(several[:n], 1)[0].From
		for _, r := range wrong {
			for _, bad := range [][]api.RR{list(r), list(r, ok), list(ok, r), list(ok, r, ok)} {
				checkAdd(t, l, step(from, from+1, bad, nil), api.ErrForm)
				checkAdd(t, l, step(from, from+1, nil, bad), api.ErrForm)
				checkAdd(t, l, step(from, from+1, bad, list(ok)), api.ErrForm)
				checkAdd(t, l, step(from, from+1, list(ok), bad), api.ErrForm)
			}
		}
		checkAdd(t, l, step(from, from+1, many, nil), api.ErrForm)
		checkAdd(t, l, step(from, from+1, nil, many), api.ErrForm)
		checkAdd(t, l, step(from, from+1, many, many), api.ErrForm)
		if after := filesOf(d); after != before {
			t.Errorf("the disk: %s\nbefore %s", brief(after), brief(before))
		}
		d.Restart("")
		checkAdds(t, l, step(from, from+1, many[1:], many[1:]))
		checkAdds(t, l, step(from+1, from+2, nil, nil))
		checkQuiet(t, d, 5, append(clone(several[:n]), step(from, from+1, many[1:], many[1:]), step(from+1, from+2, nil, nil))...)
	}
}

func TestAddWithAGap(t *testing.T) {
	for n := range len(several) + 1 {
		d := newDisk(t, lots)
		l := checkOpen(t, d, 5)
		checkAdds(t, l, several[:n]...)
		if n == 0 {
			continue
		}
		for range 2 {
			do(t, d.Break(1))
			before := filesOf(d)
			to := several[n-1].To
			for _, from := range []uint32{to + 1, to - 1, to ^ 1<<31, to ^ 1<<16, several[n-1].From ^ 8, 1000, 4294967000} {
				checkAdd(t, l, step(from, from+1, nil, nil), api.ErrGap)
				checkAdd(t, l, step(from, to, nil, list(rr(apex, a, in, 5, "abcd"))), api.ErrGap)
			}
			if several[n-1].From != to {
				checkAdd(t, l, several[n-1], api.ErrGap)
			}
			if after := filesOf(d); after != before {
				t.Errorf("the disk: %s\nbefore %s", brief(after), brief(before))
			}
			d.Restart("")
			l = checkOpen(t, d, 5, several[:n]...)
		}
		checkAdds(t, l, goOn(several[:n], 2)...)
	}
}

// The first entry of a journal may begin with any serial, whatever was refused before.
func TestAddTheFirstEntry(t *testing.T) {
	for _, from := range []uint32{0, 1, 2, 77, 1 << 31, 4294967295} {
		for _, to := range []uint32{0, 1, from, from + 1, from - 1, 4294967295} {
			d := newDisk(t, lots)
			l := checkOpen(t, d, 5)
			checkAdd(t, l, step(from+1, to, list(api.RR{}), nil), api.ErrForm)
			do(t, d.SetQuota(19))
			checkAdd(t, l, step(from+2, to, nil, nil), api.ErrFull)
			do(t, d.SetQuota(lots))
			checkAdd(t, l, step(from, to, nil, nil), api.OK)
			checkAdd(t, l, step(to+1, from, nil, nil), api.ErrGap)
			checkAdd(t, l, step(to, from, nil, nil), api.OK)
			checkQuiet(t, d, 5, step(from, to, nil, nil), step(to, from, nil, nil))
		}
	}
}

// greatEntry is an entry whose bytes are that many.
func greatEntry(from uint32, size int) entry.Entry {
	greatest := rr("\x00", 99, in, 5, strings.Repeat("A", maxData))
	x := step(from, from+1, nil, slices.Repeat(list(greatest), 255))
	x.Del = list(rr("\x00", 99, in, 5, strings.Repeat("B", size-12-255*(15+maxData)-15)))
	return x
}

func TestAddTheGreatestEntry(t *testing.T) {
	for _, n := range []int{0, 2} {
		from := goOn(several[:n], 1)[0].From
		x, y := greatEntry(from, maxFrame), greatEntry(from, maxFrame+1)
		if len(bytesOf(t, x)) != maxFrame || len(bytesOf(t, y)) != maxFrame+1 {
			t.Fatal("the entries don't have the bytes that they are to have")
		}
		d := newDisk(t, lots)
		l := checkOpen(t, d, 5)
		checkAdds(t, l, several[:n]...)
		used := d.Used()
		do(t, d.Break(1))
		checkAdd(t, l, y, api.ErrLong)
		if d.Used() != used || d.Down() {
			t.Errorf("used %d, down %v", d.Used(), d.Down())
		}
		d.Restart("")
		checkAdd(t, l, x, api.OK)
		if d.Used() != used+8+maxFrame {
			t.Errorf("used %d", d.Used())
		}
		checkQuiet(t, d, 5, append(clone(several[:n]), x)...)
		do(t, d.Append("log-6", framesOf(t, several[:n]...)+framesOf(t, y)))
		checkOpen(t, d, 6, several[:n]...)
	}
}

// breakJournal makes a journal broken, without a change of the disk that is left after the restart.
func breakJournal(t *testing.T, d *disk.Disk, l *log.Log, x entry.Entry) {
	t.Helper()
	do(t, d.Break(1))
	checkAdd(t, l, x, api.ErrLost)
	d.Restart("")
}

func TestTheOrderOfTheErrors(t *testing.T) {
	const notWellFormed, gap, long, broken, down, full = 1, 2, 4, 8, 16, 32
	for set := range 64 {
		d := newDisk(t, lots)
		l := checkOpen(t, d, 5)
		checkAdds(t, l, entry1to2)
		if set&broken != 0 {
			breakJournal(t, d, l, entry2to3)
		}
		x := entry2to3
		if set&long != 0 {
			x = greatEntry(2, maxFrame+1)
		}
		if set&gap != 0 {
			x.From = 1
		}
		if set&notWellFormed != 0 {
			x.Add = append(slices.Clone(x.Add), api.RR{})
		}
		if set&down != 0 {
			do(t, d.Break(0))
		}
		if set&full != 0 {
			do(t, d.SetQuota(d.Used()))
		}
		want := api.OK
		switch {
		case set&notWellFormed != 0:
			want = api.ErrForm
		case set&gap != 0:
			want = api.ErrGap
		case set&long != 0:
			want = api.ErrLong
		case set&(broken|down) != 0:
			want = api.ErrLost
		case set&full != 0:
			want = api.ErrFull
		}
		used := d.Used()
		checkAdd(t, l, x, want)
		if want != api.OK && d.Used() != used {
			t.Errorf("used %d; before %d", d.Used(), used)
		}
		if t.Failed() {
			t.Fatalf("the set of errors %b", set)
		}
		do(t, d.SetQuota(lots))
		d.Restart("")
		if set&broken != 0 {
			checkAdd(t, l, entry2to3, api.ErrLost)
		} else if want != api.OK {
			checkAdd(t, l, entry2to3, api.OK)
		}
	}
}

func TestAddToAFullDisk(t *testing.T) {
	d := newDisk(t, 19)
	l := checkOpen(t, d, 5)
	for quota := range 20 {
		do(t, d.SetQuota(quota))
		checkAdd(t, l, entry1to2, api.ErrFull)
		checkFiles(t, d)
	}
	do(t, d.SetQuota(20))
	checkAdd(t, l, entry1to2, api.OK)
	checkAdd(t, l, entry2to3, api.ErrFull)
	do(t, d.SetQuota(81))
	checkAdd(t, l, entry2to3, api.ErrFull)
	do(t, d.SetQuota(10))
	checkAdd(t, l, entry2to3, api.ErrFull)
	checkFiles(t, d, "log-5", frame1to2)
	do(t, d.SetQuota(82))
	checkAdd(t, l, entry2to3, api.OK)
	checkSafe(t, d, "log-5", frame1to2+frame2to3)
}

// A full disk makes no journal broken, and no change that counts.
func TestAFullDiskIsNoBreak(t *testing.T) {
	d := newDisk(t, 10)
	l := checkOpen(t, d, 5)
	do(t, d.Break(3))
	for range 5 {
		checkAdd(t, l, entry1to2, api.ErrFull)
	}
	do(t, d.SetQuota(lots))
	checkAdd(t, l, entry1to2, api.OK)
	if !d.Down() {
		t.Error("Add made fewer than three changes")
	}
	checkSafe(t, d, "log-5", frame1to2)
	checkAdds(t, l, entry2to3)
}

// P19.2: a disk that breaks at each step

func TestAddTheFirstEntryToADiskThatBreaks(t *testing.T) {
	for _, w := range []struct {
		changes int
		want    api.Errno
		broken  bool
	}{
		{0, api.ErrLost, false}, // the append
		{1, api.ErrLost, true},  // the sync
		{2, api.ErrLost, true},  // SyncDir
		{3, api.OK, false},
	} {
		for _, choices := range []string{"", "\x01", "\x01\x80", "\x01\xff"} {
			d := newDisk(t, lots)
			l := checkOpen(t, d, 5)
			do(t, d.Break(w.changes))
			checkAdd(t, l, entry1to2, w.want)
			if !d.Down() {
				t.Errorf("no break after %d", w.changes)
			}
			checkAfterABreak(t, d, l, w.broken, choices)
		}
	}
}

func TestAddALaterEntryToADiskThatBreaks(t *testing.T) {
	for _, w := range []struct {
		changes int
		want    api.Errno
		broken  bool
	}{
		{0, api.ErrLost, false}, // the append
		{1, api.ErrLost, true},  // the sync
		{2, api.OK, false},
	} {
		for _, choices := range []string{"", "\x00\x80", "\x00\xff"} {
			d := newDisk(t, lots)
			checkAdds(t, checkOpen(t, d, 5), entry1to2)
			l := checkOpen(t, d, 5, entry1to2)
			do(t, d.Break(w.changes))
			checkAdd(t, l, entry2to3, w.want)
			if !d.Down() {
				t.Errorf("no break after %d", w.changes)
			}
			checkAfterABreak(t, d, l, w.broken, choices)
		}
	}
}

// checkAfterABreak checks that a broken journal takes nothing, before and after the restart, and that one that is not broken goes on.
func checkAfterABreak(t *testing.T, d *disk.Disk, l *log.Log, broken bool, choices string) {
	t.Helper()
	next := goOn(l.Entries(), 2)
	checkAdd(t, l, next[0], api.ErrLost)
	d.Restart(choices)
	if !broken {
		checkAdds(t, l, next...)
		checkQuiet(t, d, l.Gen(), l.Entries()...)
		return
	}
	before := filesOf(d)
	for range 3 {
		checkAdd(t, l, next[0], api.ErrLost)
		checkAdd(t, l, goOn(next[:1], 2)[1], gapUnlessEmpty(l))
		checkAdd(t, l, step(next[0].From, 5, list(api.RR{}), nil), api.ErrForm)
		if after := filesOf(d); after != before {
			t.Errorf("a broken journal changed the disk: %s\nbefore %s", brief(after), brief(before))
		}
		d.Restart("")
	}
	// Another journal of the same file is not broken.
	fresh, e := log.Open(d, l.Gen())
	do(t, e)
	checkAdds(t, fresh, goOn(fresh.Entries(), 2)...)
	checkAdd(t, l, next[0], api.ErrLost)
}

// gapUnlessEmpty is the error of an entry that begins with a wrong serial, which a journal without entries does not have.
func gapUnlessEmpty(l *log.Log) api.Errno {
	if len(l.Entries()) > 0 {
		return api.ErrGap
	}
	return api.ErrLost
}

// P19.2: SyncDir, only where the file did not exist before

// changesOfAdd counts the changes of a disk that Add makes.
func changesOfAdd(t *testing.T, d *disk.Disk, l *log.Log, x entry.Entry) int {
	t.Helper()
	do(t, d.Break(100))
	checkAdd(t, l, x, api.OK)
	n := 100
	for !d.Down() {
		do(t, d.SyncDir())
		n--
	}
	d.Restart("")
	return n
}

func checkChangesOfAdd(t *testing.T, d *disk.Disk, l *log.Log, x entry.Entry, want int) {
	t.Helper()
	if n := changesOfAdd(t, d, l, x); n != want {
		t.Errorf("Add makes %d changes; want %d", n, want)
	}
}

func TestSyncDirOnlyForANewFile(t *testing.T) {
	d := newDisk(t, lots)
	l := checkOpen(t, d, 5)
	checkChangesOfAdd(t, d, l, entry1to2, 3)
	checkChangesOfAdd(t, d, l, entry2to3, 2)
	l = checkOpen(t, d, 5, entry1to2, entry2to3)
	checkChangesOfAdd(t, d, l, step(3, 4, nil, nil), 2)

	put(t, d, "log-6", "")
	checkChangesOfAdd(t, d, checkOpen(t, d, 6), entry1to2, 2)
	put(t, d, "log-7", "abc")
	checkChangesOfAdd(t, d, checkOpen(t, d, 7), entry1to2, 2)
	put(t, d, "log-88", frame1to2)
	checkChangesOfAdd(t, d, checkOpen(t, d, 8), entry1to2, 3)
}

// It matters whether the file exists when the entry is added, and not what it was when the journal was opened.
func TestAFileThatComesOrGoesAfterOpen(t *testing.T) {
	d := newDisk(t, lots)
	l, second := checkOpen(t, d, 5), checkOpen(t, d, 5)
	checkAdds(t, l, entry1to2)
	checkChangesOfAdd(t, d, second, entry2to3, 2)
	checkFiles(t, d, "log-5", frame1to2+frame2to3)

	do(t, d.Remove("log-5"), d.SyncDir())
	checkChangesOfAdd(t, d, l, entry2to3, 3)
	checkSafe(t, d, "log-5", frame2to3)

	third := checkOpen(t, d, 6)
	put(t, d, "log-6", "abc")
	checkChangesOfAdd(t, d, third, entry1to2, 2)
	checkSafe(t, d, "log-5", frame2to3, "log-6", "abc"+frame1to2)

	do(t, d.Append("log-7", frame1to2))
	fourth := checkOpen(t, d, 7, entry1to2)
	d.Restart("")
	checkChangesOfAdd(t, d, fourth, entry2to3, 3)
}

func TestAnAddThatFailsDoesNotMakeTheFileOld(t *testing.T) {
	d := newDisk(t, 10)
	l := checkOpen(t, d, 5)
	checkAdd(t, l, entry1to2, api.ErrFull)
	do(t, d.SetQuota(lots), d.Break(0))
	checkAdd(t, l, entry1to2, api.ErrLost)
	d.Restart("")
	checkAdd(t, l, step(1, 2, list(api.RR{}), nil), api.ErrForm)
	checkChangesOfAdd(t, d, l, entry1to2, 3)
}

// R5: what was returned and what was handed in share nothing with the journal.

func TestEntriesThatWereReturnedStay(t *testing.T) {
	d := newDisk(t, lots)
	l := checkOpen(t, d, 5)
	var earlier [][]entry.Entry
	for n, x := range several {
		do(t, l.Add(x))
		earlier = append(earlier, l.Entries())
		checkApart(t, l.Entries())
		for i, m := range earlier {
			if !sameEntries(m, several[:i+1]) {
				t.Errorf("after %d entries: those returned after %d are %s", n+1, i+1, told(m...))
			}
		}
		reopened, e := log.Open(d, 5)
		do(t, e)
		checkApart(t, reopened.Entries())
		checkLog(t, l, 5, several[:n+1], len(framesOf(t, several[:n+1]...)))
		checkLog(t, reopened, 5, several[:n+1], len(framesOf(t, several[:n+1]...)))
	}
}

func TestTwoJournalsAreApart(t *testing.T) {
	d, other := newDisk(t, lots), newDisk(t, lots)
	l, m := checkOpen(t, d, 5), checkOpen(t, other, 5)
	n := checkOpen(t, d, 6)
	checkAdds(t, l, several...)
	checkLog(t, m, 5, nil, 0)
	checkLog(t, n, 6, nil, 0)
	checkFiles(t, other)
	breakJournal(t, d, l, goOn(several, 1)[0])
	checkAdds(t, m, several...)
	checkAdds(t, n, several...)
	checkAdd(t, l, goOn(several, 1)[0], api.ErrLost)
	checkFiles(t, other, "log-5", framesOf(t, several...))
}

// P19.3

// checkSurvivors opens a journal after a restart, all of whose entries but the last one or none were added for certain.
func checkSurvivors(t *testing.T, d *disk.Disk, gen uint64, added []entry.Entry, certain int) *log.Log {
	t.Helper()
	l, e := log.Open(d, gen)
	if e != api.OK {
		t.Fatalf("Open: %d", e)
	}
	n := len(l.Entries())
	if n < certain || n > len(added) || !sameEntries(l.Entries(), added[:n]) {
		t.Fatalf("%s; added were %s, of these for certain %d", told(l.Entries()...), told(added...), certain)
	}
	checkLog(t, l, gen, added[:n], len(framesOf(t, added[:n]...)))
	return l
}

// addAll adds entries until one is not added, and returns those that may be there then, and how many are for certain.
func addAll(l *log.Log, more []entry.Entry) ([]entry.Entry, int) {
	added := l.Entries()
	for _, x := range more {
		added = append(added, x)
		if l.Add(x) != api.OK {
			return added, len(added) - 1
		}
	}
	return added, len(added)
}

// The disk breaks at each step of adding four entries, and again while the journal is opened, and loses what each choice lets it lose.
func TestEveryBreak(t *testing.T) {
	for changes := range 11 {
		for pending := range 3 {
			for kept := range 256 {
				d := newDisk(t, lots)
				l, e := log.Open(d, 5)
				do(t, e, d.Break(changes))
				added, certain := addAll(l, several[1:5])
				choices := string([]byte{byte(pending), byte(kept), byte(kept)})
				d.Restart(choices)
				do(t, d.Break(1+kept%6))
				log.Open(d, 5)
				d.Restart(choices)
				l = checkSurvivors(t, d, 5, added, certain)
				added, certain = addAll(l, goOn(l.Entries(), 2))
				if certain != len(added) {
					t.Fatalf("an entry could not be added")
				}
				d.Restart("")
				checkSurvivors(t, d, 5, added, certain)
				if t.Failed() {
					t.Fatalf("a break after %d, and the restart %q", changes, choices)
				}
			}
		}
	}
}

func randomRecord(r *rand.Rand) api.RR {
	n := []string{"\x00", apex, "\x01x\x01a\x00", "\x01X\x01A\x00", "\x02yy\x01x\x01a\x00"}[r.Intn(5)]
	switch r.Intn(5) {
	case 0:
		return rr(n, a, in, r.Intn(100), "abc"+string([]byte{byte(r.Intn(256))}))
	case 1:
		return rr(n, ns, in, 5, "\x01n\x01x\x01a\x00")
	case 2:
		return rr(n, soa, in, 5, n+apex+"ABCDEFGHIJKLMNOPQRST")
	case 3:
		return rr(n, r.Intn(65536), 255, 0, "")
	}
	return rr(n, 99, in, r.Intn(1<<31), strings.Repeat("d", r.Intn(40)))
}

func randomRecords(r *rand.Rand) []api.RR {
	var l []api.RR
	for range r.Intn(4) {
		l = append(l, randomRecord(r))
	}
	return l
}

func randomNext(r *rand.Rand, l []entry.Entry) entry.Entry {
	x := goOn(l, 1)[0]
	return step(x.From, x.From+uint32(r.Intn(3)), randomRecords(r), randomRecords(r))
}

func randomChoices(r *rand.Rand) string {
	b := make([]byte, r.Intn(8))
	r.Read(b)
	return string(b)
}

// A journal lives through many breaks and restarts; sometimes the disk is full, and sometimes a journal is opened again without a restart.
func TestManyBreaks(t *testing.T) {
	r := rand.New(rand.NewSource(3))
	for range 60 {
		d := newDisk(t, lots)
		var added []entry.Entry
		certain := 0
		for range 60 {
			if r.Intn(3) == 0 {
				d.Break(r.Intn(6))
				log.Open(d, 5)
				d.Restart(randomChoices(r))
			}
			l := checkSurvivors(t, d, 5, added, certain)
			if r.Intn(2) == 0 {
				d.Break(r.Intn(8))
			}
			if r.Intn(4) == 0 {
				d.SetQuota(d.Used() + r.Intn(300))
			}
			var more []entry.Entry
			for range r.Intn(5) {
				more = append(more, randomNext(r, append(l.Entries(), more...)))
			}
			added, certain = addAll(l, more)
			d.SetQuota(lots)
			if d.Down() || r.Intn(2) == 0 {
				d.Restart(randomChoices(r))
			}
		}
	}
}

// P19.1 and P19.2: random calls, compared with the model

func randomBytes(t *testing.T, r *rand.Rand, l []entry.Entry) string {
	f := framesOf(t, randomNext(r, l))
	switch r.Intn(8) {
	case 0:
		return f[:r.Intn(len(f))]
	case 1:
		return flipped(f, r.Intn(len(f)), r.Intn(8))
	case 2:
		return modelFrame(randomChoices(r))
	case 3:
		return randomChoices(r)
	case 4:
		return framesOf(t, randomNext(r, nil))
	}
	return f
}

func randomEntry(r *rand.Rand, l []entry.Entry) entry.Entry {
	x := randomNext(r, l)
	switch r.Intn(12) {
	case 0:
		x.From += uint32(r.Intn(3))
	case 1:
		x.Del = append(x.Del, wrong[r.Intn(len(wrong))])
	case 2:
		x.Add = append(x.Add, wrong[r.Intn(len(wrong))])
		x.From ^= uint32(r.Intn(2))
	}
	return x
}

func (p *pair) randomStep(t *testing.T, r *rand.Rand) {
	t.Helper()
	gen := uint64(r.Intn(2))
	file := []string{"log-0", "log-1", "log-tmp", "image"}[r.Intn(4)]
	switch r.Intn(16) {
	case 0, 1:
		p.open(t, gen)
	case 2:
		p.put(file, randomBytes(t, r, p.m.entries()))
	case 3:
		p.both(func(d *disk.Disk) { d.Sync(file) })
	case 4:
		p.both(func(d *disk.Disk) { d.SyncDir() })
	case 5:
		p.breakAfter(r.Intn(12))
	case 6:
		p.restart(randomChoices(r))
	case 7:
		p.quota(p.d.Used() + r.Intn(400))
	case 8:
		if r.Intn(3) == 0 {
			p.both(func(d *disk.Disk) { d.Remove(file) })
		}
	default:
		p.add(t, randomEntry(r, p.m.entries()))
	}
	p.check(t)
}

func TestRandomCalls(t *testing.T) {
	r := rand.New(rand.NewSource(19))
	for run := range 400 {
		p := newPair(t, 1000)
		p.open(t, 0)
		for i := range 60 {
			if p.randomStep(t, r); t.Failed() {
				t.Fatalf("run %d, step %d", run, i)
			}
		}
	}
}

// A file of random pieces, opened and repaired.
func TestRandomFiles(t *testing.T) {
	r := rand.New(rand.NewSource(20))
	for range 4000 {
		p := newPair(t, lots)
		b := ""
		for range r.Intn(6) {
			l, _ := modelScan(b)
			b += randomBytes(t, r, l)
		}
		p.put("log-5", b)
		if r.Intn(2) == 0 {
			p.put("log-tmp", "x")
		}
		p.open(t, 5)
		p.open(t, 5)
		p.restart(randomChoices(r))
		p.run(t, 5)
		if t.Failed() {
			t.Fatalf("%q", b)
		}
	}
}

func FuzzOpen(f *testing.F) {
	for _, b := range contents {
		f.Add(b)
	}
	f.Fuzz(func(t *testing.T, b string) {
		p := newPair(t, lots)
		p.put("log-5", b)
		p.open(t, 5)
		p.run(t, 5)
	})
}
