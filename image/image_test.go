package image_test

import (
	"fmt"
	"math"
	"math/rand"
	"slices"
	"strings"
	"testing"

	"beadroll/api"
	"beadroll/image"
	"beadroll/rdata"
	"beadroll/record"
	"beadroll/rrset"
	"beadroll/zone"
)

const (
	a     = 1
	ns    = 2
	cname = 5
	soa   = 6
	ptr   = 12
	mx    = 15
	txt   = 16
	aaaa  = 28
	srv   = 33
	in    = 1

	maxTTL  = 2147483647
	maxData = 65535
	maxZone = 65536

	root = "\x00"
	apex = "\x01a\x00"
	// numbers are those of an SOA, and digitsOfNumbers what stands for them in a line.
	numbers         = "ABCDEFGHIJKLMNOPQRST"
	digitsOfNumbers = "4142434445464748494a4b4c4d4e4f5051525354"
	// gen is a generation of eight different bytes.
	gen        = 0x0102fdfe7f80ff04
	bytesOfGen = "\x01\x02\xfd\xfe\x7f\x80\xff\x04"
)

// longest is a name of MaxName bytes; tooLong has one byte more, and is otherwise a name.
var (
	longest = wire(letters(63), letters(63), letters(63), letters(61))
	tooLong = wire(letters(63), letters(63), letters(63), letters(62))
)

// sample is a record with its own bytes and its line, both written out.
type sample struct {
	r         api.RR
	own, line string
}

// samples are the records of a zone a. in the zone's order.
var samples = []sample{
	{rr("\x01a\x00", a, in, 5, "\x0a\x00\x00\x01"),
		"\x01a\x00" + "\x00\x01\x00\x01\x00\x00\x00\x05\x00\x04\x0a\x00\x00\x01",
		"a. 1 1 5 0a000001"},
	{rr("\x01a\x00", ns, in, 0, "\x01a\x00"),
		"\x01a\x00" + "\x00\x02\x00\x01\x00\x00\x00\x00\x00\x02\xc0\x00",
		"a. 2 1 0 016100"},
	{rr("\x01A\x00", ns, in, maxTTL, "\x01n\x01a\x00"),
		"\x01A\x00" + "\x00\x02\x00\x01\x7f\xff\xff\xff\x00\x05\x01n\x01a\x00",
		"A. 2 1 2147483647 016e016100"},
	{rr("\x01a\x00", soa, in, 3600, "\x01M\x01a\x00\x01a\x00"+numbers),
		"\x01a\x00" + "\x00\x06\x00\x01\x00\x00\x0e\x10\x00\x1a\x01M\xc0\x00\xc0\x00" + numbers,
		"a. 6 1 3600 014d016100016100" + digitsOfNumbers},
	{rr("\x01a\x00", 99, in, 0, ""),
		"\x01a\x00" + "\x00\x63\x00\x01\x00\x00\x00\x00\x00\x00",
		"a. 99 1 0 "},
	{rr("\x01a\x00", 65535, in, 10, "\xff"),
		"\x01a\x00" + "\xff\xff\x00\x01\x00\x00\x00\x0a\x00\x01\xff",
		"a. 65535 1 10 ff"},
	{rr("\x01\x00\x01a\x00", 300, in, 12345, "\x00\x09"),
		"\x01\x00\x01a\x00" + "\x01\x2c\x00\x01\x00\x00\x30\x39\x00\x02\x00\x09",
		"\\000.a. 300 1 12345 0009"},
	{rr("\x01 \x01a\x00", txt, in, 999999999, "\x01 "),
		"\x01 \x01a\x00" + "\x00\x10\x00\x01\x3b\x9a\xc9\xff\x00\x02\x01 ",
		"\\032.a. 16 1 999999999 0120"},
	{rr("\x01*\x01a\x00", mx, in, 1000000000, "\x00\x0a\x01a\x00"),
		"\x01*\x01a\x00" + "\x00\x0f\x00\x01\x3b\x9a\xca\x00\x00\x04\x00\x0a\xc0\x02",
		"*.a. 15 1 1000000000 000a016100"},
	{rr("\x03\\.\"\x01A\x00", aaaa, in, 5, "\x9a\xa9\xf0\x0f\x90\x09ABCDEFGHIJ"),
		"\x03\\.\"\x01A\x00" + "\x00\x1c\x00\x01\x00\x00\x00\x05\x00\x10\x9a\xa9\xf0\x0f\x90\x09ABCDEFGHIJ",
		"\\\\\\.\".A. 28 1 5 9aa9f00f90094142434445464748494a"},
	{rr("\x01c\x01a\x00", cname, in, 5, "\x01c\x01a\x00"),
		"\x01c\x01a\x00" + "\x00\x05\x00\x01\x00\x00\x00\x05\x00\x02\xc0\x00",
		"c.a. 5 1 5 0163016100"},
	{rr("\x01x\x01a\x00", ptr, in, 60, "\x02yy\x01X\x01a\x00"),
		"\x01x\x01a\x00" + "\x00\x0c\x00\x01\x00\x00\x00\x3c\x00\x07\x02yy\x01X\xc0\x02",
		"x.a. 12 1 60 0279790158016100"},
	{rr("\x02\x7f\xff\x01a\x00", srv, in, 5, "ABCDEF\x01a\x00"),
		"\x02\x7f\xff\x01a\x00" + "\x00\x21\x00\x01\x00\x00\x00\x05\x00\x09ABCDEF\x01a\x00",
		"\\127\\255.a. 33 1 5 414243444546016100"},
}

var (
	nsOfA, soaOfA = samples[1], samples[3]
	// small is the least that the zone a. can be.
	small = []sample{nsOfA, soaOfA}
	// foreign stands in the spare capacity of what is handed in, and scribble is written over what was handed in or returned.
	foreign  = "foreign. 9 9 77777 99"
	scribble = "scribble. 8 8 77777 88"
)

// notNames are strings that are not names.
var notNames = []string{"", "\x01", "\x01a", "a", "a.", "\x00\x00", "\x01a\x00\x00", "\x01a\xc0\x00", "\xc0\x00", "\x40" + letters(64) + "\x00", strings.Repeat("\x01a", 128) + "\x00", tooLong}

// notZones are lists of valid records that with the apex a. are not a zone.
var notZones = [][]api.RR{
	nil,
	{nsOfA.r},
	{soaOfA.r},
	{nsOfA.r, soaOfA.r, rr(apex, soa, in, 3600, "\x01M\x01a\x00\x01b\x00"+numbers)},
	{nsOfA.r, soaOfA.r, rr("\x01b\x00", a, in, 5, "abcd")},
	{nsOfA.r, soaOfA.r, rr(root, a, in, 5, "abcd")},
	{nsOfA.r, soaOfA.r, rr("\x01x\x01a\x00", a, 3, 5, "abcd")},
	{nsOfA.r, soaOfA.r, rr("\x01x\x01a\x00", a, 0, 5, "abcd")},
	{nsOfA.r, soaOfA.r, rr("\x01x\x01a\x00", a, 254, 5, "")},
	{nsOfA.r, soaOfA.r, rr("\x01x\x01a\x00", 0, in, 5, "abcd")},
	{nsOfA.r, soaOfA.r, rr("\x01x\x01a\x00", 41, in, 5, "abcd")},
	{nsOfA.r, soaOfA.r, rr("\x01x\x01a\x00", 128, in, 5, "abcd")},
	{nsOfA.r, soaOfA.r, rr("\x01x\x01a\x00", 255, in, 5, "abcd")},
	{nsOfA.r, soaOfA.r, rr(apex, cname, in, 5, root)},
	{nsOfA.r, soaOfA.r, rr("\x01x\x01a\x00", cname, in, 5, root), rr("\x01X\x01a\x00", a, in, 5, "abcd")},
	{rr("\x01x\x01a\x00", ns, in, 5, root), soaOfA.r},
	{nsOfA.r, rr("\x01x\x01a\x00", soa, in, 5, root+root+numbers)},
}

func letters(n int) string {
	return strings.Repeat("a", n)
}

func wire(labels ...string) string {
	n := ""
	for _, l := range labels {
		n += string([]byte{byte(len(l))}) + l
	}
	return n + "\x00"
}

func rr(n string, typ, class, ttl int, data string) api.RR {
	return api.RR{Name: n, Type: typ, Class: class, TTL: ttl, Data: data}
}

func single(c int) string {
	return string([]byte{byte(c)})
}

// below is the name with a label more than n.
func below(label, n string) string {
	return piece(label, 1) + n
}

// swap exchanges capital and small letters.
func swap(s string) string {
	b := []byte(s)
	for i, c := range b {
		if 'a' <= c|0x20 && c|0x20 <= 'z' {
			b[i] ^= 0x20
		}
	}
	return string(b)
}

func records(l []sample) []api.RR {
	var rs []api.RR
	for _, s := range l {
		rs = append(rs, s.r)
	}
	return rs
}

func lines(l []sample) []string {
	var texts []string
	for _, s := range l {
		texts = append(texts, s.line)
	}
	return texts
}

func head(gen uint64, apex string) string {
	return number(gen, 8) + piece(apex, 2)
}

func pieces(l []sample) string {
	b := ""
	for _, s := range l {
		b += piece(s.own, 4)
	}
	return b
}

// plainPieces are the pieces of any records whose numbers fit, without pointers.
func plainPieces(l ...api.RR) string {
	var b strings.Builder
	for _, r := range l {
		b.WriteString(piece(r.Name+number(uint64(r.Type), 2)+number(uint64(r.Class), 2)+number(uint64(r.TTL), 4)+piece(r.Data, 2), 4))
	}
	return b.String()
}

func brief(s string) string {
	if len(s) > 80 {
		return fmt.Sprintf("%q.. (%d bytes)", s[:80], len(s))
	}
	return fmt.Sprintf("%q", s)
}

func told(l []api.RR) string {
	s := fmt.Sprintf("%d:", len(l))
	for _, r := range l[:min(len(l), 12)] {
		s += fmt.Sprintf(" {%s %d %d TTL %d %s}", brief(r.Name), r.Type, r.Class, r.TTL, brief(r.Data))
	}
	return s
}

func toldLines(l []string) string {
	s := fmt.Sprintf("%d:", len(l))
	for _, line := range l[:min(len(l), 12)] {
		s += " " + brief(line)
	}
	return s
}

// reversed, shuffled and with are other lists of the same things, or almost the same.
func reversed[T any](l []T) []T {
	k := slices.Clone(l)
	slices.Reverse(k)
	return k
}

func shuffled[T any](random *rand.Rand, l []T) []T {
	k := slices.Clone(l)
	random.Shuffle(len(k), func(i, j int) { k[i], k[j] = k[j], k[i] })
	return k
}

func with[T any](l []T, i int, more ...T) []T {
	return slices.Insert(slices.Clone(l), i, more...)
}

func mustZone(t *testing.T, apex string, l []api.RR) zone.Zone {
	t.Helper()
	z, e := zone.New(apex, l)
	if e != api.OK {
		t.Fatalf("zone.New(%s, %s): %d", brief(apex), told(l), e)
	}
	return z
}

// isZero reports whether z is as New returns it with an error.
func isZero(z zone.Zone) bool {
	r, parts := z.Soa()
	return z.Apex() == "" && len(z.All()) == 0 && r == api.RR{} && parts == rdata.SOA{}
}

// checkZone writes over the list that it is told.
func checkZone(t *testing.T, call string, z zone.Zone, apex string, set []api.RR) {
	t.Helper()
	got := z.All()
	if z.Apex() != apex || !slices.Equal(got, set) {
		t.Errorf("%s: %s, %s; want %s, %s", call, brief(z.Apex()), told(got), brief(apex), told(set))
	}
	clear(got[:cap(got)])
}

func checkBytes(t *testing.T, gen uint64, z zone.Zone, want string) {
	t.Helper()
	apex, set := z.Apex(), z.All()
	for range 2 {
		got := image.Bytes(gen, z)
		if got != want {
			i := 0
			for i < len(got) && i < len(want) && got[i] == want[i] {
				i++
			}
			t.Errorf("Bytes(%d, %s, %s): %d bytes, from %d on %s; want %d bytes, %s", gen, brief(apex), told(set), len(got), i, brief(got[i:]), len(want), brief(want[i:]))
		}
		checkZone(t, "the zone after Bytes", z, apex, set)
	}
}

func checkOf(t *testing.T, b string, gen uint64, apex string, set []api.RR) {
	t.Helper()
	for range 2 {
		g, z, e := image.Of(b)
		if g != gen || e != api.OK {
			t.Errorf("Of(%s): %d, %d; want %d", brief(b), g, e, gen)
		}
		checkZone(t, "Of "+brief(b), z, apex, set)
	}
}

func checkNoImage(t *testing.T, b string, want api.Errno) {
	t.Helper()
	g, z, e := image.Of(b)
	if g != 0 || !isZero(z) || e != want {
		t.Errorf("Of(%s): %d, %s, %d; want %d", brief(b), g, told(z.All()), e, want)
	}
}

// checkOfModel tells whether b is an image.
func checkOfModel(t *testing.T, b string) bool {
	t.Helper()
	gen, z, e := modelOf(b)
	if e != api.OK {
		checkNoImage(t, b, e)
		return false
	}
	checkOf(t, b, gen, z.Apex(), z.All())
	return true
}

// checkImage encodes a zone and reads it back.
func checkImage(t *testing.T, gen uint64, z zone.Zone, b string) {
	t.Helper()
	checkBytes(t, gen, z, b)
	checkOf(t, b, gen, z.Apex(), z.All())
	checkNoImage(t, b[:len(b)-1], api.ErrForm)
}

// checkLines asks twice, and writes over the first answer.
func checkLines(t *testing.T, z zone.Zone, want []string) {
	t.Helper()
	apex, set := z.Apex(), z.All()
	for range 2 {
		got := image.Lines(z)
		if !slices.Equal(got, want) {
			t.Errorf("Lines of %s: %s; want %s", told(set), toldLines(got), toldLines(want))
		}
		checkZone(t, "the zone after Lines", z, apex, set)
		clear(got[:cap(got)])
	}
}

// read calls Read and checks that the list is not changed, and that changing it afterwards does not matter.
func read(t *testing.T, apex string, l []string) (zone.Zone, api.Errno) {
	t.Helper()
	given := append(slices.Clone(l), foreign, foreign, foreign)
	before := slices.Clone(given)
	z, e := image.Read(apex, given[:len(l)])
	if !slices.Equal(given, before) {
		t.Errorf("Read(%s, %s) made it %s", brief(apex), toldLines(l), toldLines(given))
	}
	for i := range given {
		given[i] = scribble
	}
	return z, e
}

func checkRead(t *testing.T, apex string, l []string, set []api.RR) {
	t.Helper()
	z, e := read(t, apex, l)
	if e != api.OK {
		t.Errorf("Read(%s, %s): %d", brief(apex), toldLines(l), e)
	}
	checkZone(t, "Read "+toldLines(l), z, apex, set)
}

func checkNoRead(t *testing.T, apex string, l []string, want api.Errno) {
	t.Helper()
	z, e := read(t, apex, l)
	if e != want || !isZero(z) {
		t.Errorf("Read(%s, %s): %s, %d; want %d", brief(apex), toldLines(l), told(z.All()), e, want)
	}
}

// checkReadModel tells whether l are the lines of a zone.
func checkReadModel(t *testing.T, apex string, l []string) bool {
	t.Helper()
	z, e := modelRead(apex, l)
	if e != api.OK {
		checkNoRead(t, apex, l, e)
		return false
	}
	checkRead(t, apex, l, z.All())
	return true
}

// checkLine reads the line of a record that the small zone gets behind its own.
func checkLine(t *testing.T, line string, r api.RR) {
	t.Helper()
	checkRead(t, apex, append(lines(small), line), append(records(small), r))
}

// checkWrongLine puts a wrong line between the lines of a zone, and beside each other error.
func checkWrongLine(t *testing.T, line string) {
	t.Helper()
	for i := range len(small) + 1 {
		checkNoRead(t, apex, with(lines(small), i, line), api.ErrForm)
	}
	checkNoRead(t, apex, []string{line}, api.ErrForm)
	checkNoRead(t, apex, []string{nsOfA.line, line}, api.ErrForm)
	checkNoRead(t, apex, []string{line, soaOfA.line, "b. 1 1 5 61626364"}, api.ErrForm)
	checkNoRead(t, "\x01a", append(lines(small), line), api.ErrForm)
}

func TestTheSamples(t *testing.T) {
	l := records(samples)
	for _, r := range l {
		if !record.Right(r) {
			t.Errorf("%s is not valid", told([]api.RR{r}))
		}
	}
	if !rrset.Is(l) {
		t.Error("the records are not in order")
	}
	if len(longest) != api.MaxName || len(tooLong) != api.MaxName+1 {
		t.Errorf("the names have %d and %d bytes", len(longest), len(tooLong))
	}
	for i, l := range notZones {
		if _, e := zone.New(apex, l); e != api.ErrApex {
			t.Errorf("the list %d: %d", i, e)
		}
	}
}

// P18.1

func TestBytes(t *testing.T) {
	want := "\x00\x00\x00\x00\x00\x00\x01\x02" + "\x00\x03\x01a\x00" +
		"\x00\x00\x00\x0f" + "\x01a\x00\x00\x02\x00\x01\x00\x00\x00\x00\x00\x02\xc0\x00" +
		"\x00\x00\x00\x27" + "\x01a\x00\x00\x06\x00\x01\x00\x00\x0e\x10\x00\x1a\x01M\xc0\x00\xc0\x00" + numbers
	checkImage(t, 258, mustZone(t, apex, records(small)), want)
}

func TestBytesOfEachGeneration(t *testing.T) {
	z := mustZone(t, apex, records(small))
	checkImage(t, gen, z, bytesOfGen+"\x00\x03\x01a\x00"+pieces(small))
	checkImage(t, 0, z, "\x00\x00\x00\x00\x00\x00\x00\x00\x00\x03\x01a\x00"+pieces(small))
	checkImage(t, math.MaxUint64, z, "\xff\xff\xff\xff\xff\xff\xff\xff\x00\x03\x01a\x00"+pieces(small))
	checkImage(t, 1, z, "\x00\x00\x00\x00\x00\x00\x00\x01\x00\x03\x01a\x00"+pieces(small))
	for i := range 64 {
		for _, g := range []uint64{1 << i, 1<<i - 1, ^uint64(1 << i)} {
			checkImage(t, g, z, head(g, apex)+pieces(small))
		}
	}
}

// least is the least that the zone n can be, as records and as the pieces of their own bytes.
func least(n string) ([]api.RR, string) {
	toName := "\xc0\x00"
	if n == root {
		toName = root
	}
	own := []string{
		n + "\x00\x02\x00\x01\x00\x00\x00\x05" + piece(toName, 2),
		n + "\x00\x06\x00\x01\x00\x00\x00\x05" + piece(toName+toName+numbers, 2),
	}
	return []api.RR{rr(n, ns, in, 5, n), rr(n, soa, in, 5, n+n+numbers)}, piece(own[0], 4) + piece(own[1], 4)
}

func TestBytesOfEachApex(t *testing.T) {
	for _, n := range []string{
		root, "\x01a\x00", "\x01A\x00", "\x01\x00\x00", "\x02.\\\x00", "\x01b\x01a\x00", wire(letters(63)), wire(letters(63), letters(62)),
		longest, longest[1+63:], wire(letters(63), letters(63), letters(63), letters(60)), strings.Repeat("\x01a", 127) + "\x00", strings.Repeat("\x01*", 63) + "\x00", strings.Repeat("\x01\xff", 127) + "\x00",
	} {
		l, b := least(n)
		z := mustZone(t, n, l)
		checkImage(t, gen, z, bytesOfGen+number(uint64(len(n)), 2)+n+b)
		checkImage(t, 0, z, head(0, n)+b)
		checkLines(t, z, modelLines(l))
		checkRead(t, n, modelLines(l), l)
	}
}

// The apex is as it was passed, whatever letters the records have.
func TestTheApexIsNotFolded(t *testing.T) {
	for _, n := range []string{"\x01a\x00", "\x01A\x00"} {
		z := mustZone(t, n, records(samples))
		checkImage(t, 7, z, "\x00\x00\x00\x00\x00\x00\x00\x07\x00\x03"+n+pieces(samples))
		checkLines(t, z, lines(samples))
		checkRead(t, n, lines(samples), records(samples))
	}
}

func TestBytesAreInTheOrderOfTheZone(t *testing.T) {
	random := rand.New(rand.NewSource(1))
	want := bytesOfGen + "\x00\x03\x01a\x00" + pieces(samples)
	checkImage(t, gen, mustZone(t, apex, records(samples)), want)
	checkImage(t, gen, mustZone(t, apex, reversed(records(samples))), want)
	for range 50 {
		checkImage(t, gen, mustZone(t, apex, shuffled(random, slices.Concat(records(samples), records(samples)))), want)
	}
}

// Each record alone beside the small zone: no record knows the names of another one, nor of the apex.
func TestBytesOfEachRecord(t *testing.T) {
	for _, s := range samples[4:] {
		l := append(slices.Clone(small), s)
		z := mustZone(t, apex, records(l))
		checkImage(t, 1, z, head(1, apex)+pieces(l))
		checkLines(t, z, lines(l))
		checkRead(t, apex, lines(l), records(l))
		checkLine(t, s.line, s.r)
	}
}

func TestBytesWithTheLongestPointers(t *testing.T) {
	n := "\x01x" + longest[1+63:]
	for _, w := range []struct{ data, own string }{
		{n, "\xc0\x00"},
		{longest[1+63:], "\xc0\x02"},
		{"\x01y" + longest[1+63:], "\x01y\xc0\x02"},
		{root, root},
		{longest, longest[:1+63] + "\xc0\x02"},
		{swap(longest[1+63:]), swap(longest[1+63:])},
	} {
		r := rr(n, ptr, in, 5, w.data)
		top, b := least(root)
		z := mustZone(t, root, append(top, r))
		checkImage(t, 1, z, head(1, root)+b+piece(n+"\x00\x0c\x00\x01\x00\x00\x00\x05"+piece(w.own, 2), 4))
		checkLines(t, z, modelLines(append(top, r)))
	}
}

func TestOfNoImage(t *testing.T) {
	checkNoImage(t, "", api.ErrForm)
	for n := range 13 { // the generation, the apex's size, the apex
		for _, s := range []string{head(gen, apex), strings.Repeat("\x00", 13), strings.Repeat("\xff", 13), strings.Repeat("a", 13)} {
			checkNoImage(t, s[:n], api.ErrForm)
		}
	}
	checkNoImage(t, head(gen, apex), api.ErrApex)
	checkNoImage(t, head(0, root), api.ErrApex)
	for i := range 13 { // a byte of them is missing, and records follow
		b := head(gen, apex) + pieces(samples)
		checkOfModel(t, b[:i]+b[i+1:])
	}
	for i := range 8 {
		b := bytesOfGen[:i] + bytesOfGen[i+1:] + piece(apex, 2) + pieces(samples)
		checkNoImage(t, b, api.ErrForm)
	}
}

// An image that ends early is refused, unless it ends with a record: then records are missing.
func TestAnImageCutShort(t *testing.T) {
	b := head(gen, apex) + pieces(samples)
	ends := map[int]int{}
	end := len(head(gen, apex))
	for i, s := range samples {
		ends[end] = i
		end += 4 + len(s.own)
	}
	for n := range b {
		i, ok := ends[n]
		switch {
		case !ok:
			checkNoImage(t, b[:n], api.ErrForm)
		case i < 4: // no SOA yet
			checkNoImage(t, b[:n], api.ErrApex)
		default:
			checkOf(t, b[:n], gen, apex, records(samples[:i]))
		}
	}
	checkOf(t, b, gen, apex, records(samples))
}

func TestTheSizeOfTheApex(t *testing.T) {
	for _, n := range []string{root, apex, "\x01b\x01a\x00", longest} {
		l, b := least(n)
		checkOf(t, bytesOfGen+number(uint64(len(n)), 2)+n+b, gen, n, l)
		for _, size := range []int{len(n) - 1, len(n) + 1, len(n) + 4, len(n) + 256, len(n) + 32768, 0, 1 << 15, 1<<16 - 1} {
			if size != len(n) {
				checkNoImage(t, bytesOfGen+number(uint64(size), 2)+n+b, api.ErrForm)
				checkNoImage(t, bytesOfGen+number(uint64(size), 2)+n, api.ErrForm)
			}
		}
		for _, width := range []int{1, 4, 8} {
			checkNoImage(t, bytesOfGen+number(uint64(len(n)), width)+n+b, api.ErrForm)
		}
	}
}

func TestAnApexThatIsNotAName(t *testing.T) {
	for _, n := range notNames {
		checkNoImage(t, head(gen, n)+pieces(small), api.ErrForm)
		checkNoImage(t, head(gen, n)+pieces(samples), api.ErrForm)
		checkNoImage(t, head(gen, n), api.ErrForm)
		checkNoRead(t, n, lines(small), api.ErrForm)
		checkNoRead(t, n, lines(samples), api.ErrForm)
		checkNoRead(t, n, nil, api.ErrForm)
	}
	l, b := least(root)
	checkOf(t, head(gen, root)+b, gen, root, l)
}

// The apex of an image has no pointer: it is no name in a message.
func TestAnApexThatIsAPointer(t *testing.T) {
	for _, n := range []string{"\xc0\x00", "\xc0\x0d", "\x01a\xc0\x00", "\x01a\xc0\x08"} {
		checkNoImage(t, head(gen, n)+pieces(small), api.ErrForm)
	}
}

func TestPiecesOfAWrongSize(t *testing.T) {
	start := head(gen, apex)
	for i, s := range samples {
		before, after := pieces(samples[:i]), pieces(samples[i+1:])
		for _, p := range []string{
			"",
			piece(s.own, 4),
			piece(s.own+"\x00", 4),
			piece(s.own+"x", 4),
			piece(s.own[:len(s.own)-1], 4),
			piece(s.own[1:], 4),
			piece("\x00"+s.own, 4),
			piece(s.own+s.own, 4),
			piece(s.own, 4) + "\x00",
			piece(s.own, 4) + "\x00\x00\x00\x00",
			piece(s.own, 4)[1:],
			"\x00" + piece(s.own, 4),
			"\x00\x00\x00\x00" + piece(s.own, 4),
			piece("", 4),
			piece(s.own, 2),
			piece(s.own, 8),
			s.own,
			number(uint64(len(s.own)+1), 4) + s.own,
			number(uint64(len(s.own)-1), 4) + s.own,
			number(uint64(len(s.own)+256), 4) + s.own,
			number(1<<31-1, 4) + s.own,
			number(1<<31, 4) + s.own,
			number(1<<32-1, 4) + s.own,
		} {
			b := start + before + p + after
			if p == "" || p == piece(s.own, 4) {
				checkOfModel(t, b)
			} else {
				checkNoImage(t, b, api.ErrForm)
			}
		}
	}
	for _, more := range []string{"\x00", "x", "\x00\x00", "\x00\x00\x00", "\x00\x00\x00\x00", "\xff\xff\xff\xff", "\x00\x00\x00\x01"} {
		checkNoImage(t, start+pieces(samples)+more, api.ErrForm)
		checkNoImage(t, start+more+pieces(samples), api.ErrForm)
	}
}

// The pieces of records that are not valid, as far as they can be written.
func TestOfRecordsThatAreNotValid(t *testing.T) {
	for _, r := range []api.RR{
		rr("", a, in, 5, "abcd"),
		rr("\x01x\x01a", a, in, 5, "abcd"),
		rr(tooLong, a, in, 5, "abcd"),
		rr("\x01x\x01a\x00", a, in, 5, ""),
		rr("\x01x\x01a\x00", a, in, 5, "abc"),
		rr("\x01x\x01a\x00", a, in, 5, "abcde"),
		rr("\x01x\x01a\x00", aaaa, in, 5, "0123456789abcde"),
		rr("\x01x\x01a\x00", ns, in, 5, ""),
		rr("\x01x\x01a\x00", ns, in, 5, "\x01n"),
		rr("\x01x\x01a\x00", txt, in, 5, "\x02a"),
		rr("\x01x\x01a\x00", srv, in, 5, "ABCDEF\xc0\x00"),
		rr("\x01x\x01a\x00", a, 254, 5, "abc"),
	} {
		checkNoImage(t, head(gen, apex)+pieces(small)+plainPieces(r), api.ErrForm)
		checkNoImage(t, head(gen, apex)+plainPieces(r)+pieces(small), api.ErrForm)
		checkNoImage(t, head(gen, apex)+plainPieces(r), api.ErrForm)
		if r.Name != "" && r.Name != "\x01x\x01a" && r.Name != tooLong {
			checkWrongLine(t, modelLine(r))
		}
	}
}

// A piece that is a record is taken, even if it is not the record's own bytes.
func TestOfOtherBytesOfTheRecords(t *testing.T) {
	checkOf(t, head(gen, apex)+plainPieces(records(samples)...), gen, apex, records(samples))
	r := samples[11].r
	for _, ttl := range []uint64{1 << 31, 1<<31 + 60, 1<<32 - 1} {
		b := piece(r.Name+"\x00\x0c\x00\x01"+number(ttl, 4)+piece(r.Data, 2), 4)
		want := r
		want.TTL = 0
		checkOf(t, head(gen, apex)+pieces(small)+b, gen, apex, append(records(small), want))
	}
}

func TestRecordsThatAreNotAZone(t *testing.T) {
	for _, l := range notZones {
		checkNoImage(t, head(gen, apex)+plainPieces(l...), api.ErrApex)
		checkNoImage(t, head(gen, apex)+plainPieces(reversed(l)...), api.ErrApex)
		checkNoRead(t, apex, modelLines(l), api.ErrApex)
		checkNoRead(t, apex, reversed(modelLines(l)), api.ErrApex)
		// What is wrong with the bytes or a line comes first.
		checkNoImage(t, head(gen, apex)+plainPieces(l...)+"\x00", api.ErrForm)
		checkNoImage(t, head(gen, "\x01a")+plainPieces(l...), api.ErrForm)
		checkNoRead(t, "\x01a", modelLines(l), api.ErrForm)
		checkNoRead(t, apex, append(modelLines(l), ""), api.ErrForm)
	}
	for _, n := range []string{root, "\x01b\x00", "\x01b\x01a\x00", "\x01x\x01a\x00"} {
		checkNoImage(t, head(gen, n)+pieces(samples), api.ErrApex)
		checkNoRead(t, n, lines(samples), api.ErrApex)
	}
}

func TestOfRecordsInAnotherOrder(t *testing.T) {
	random := rand.New(rand.NewSource(2))
	checkOf(t, head(gen, apex)+pieces(reversed(samples)), gen, apex, records(samples))
	for range 200 {
		checkOf(t, head(gen, apex)+pieces(shuffled(random, samples)), gen, apex, records(samples))
		checkOf(t, head(gen, apex)+pieces(shuffled(random, slices.Concat(samples, samples))), gen, apex, records(samples))
	}
}

// Of records that are equal the last one is taken.
func TestEqualRecords(t *testing.T) {
	for i, s := range samples {
		other := s.r
		other.TTL ^= 1
		other.Name = swap(other.Name)
		set := records(samples)
		set[i] = other
		checkOf(t, head(gen, apex)+pieces(samples)+plainPieces(other), gen, apex, set)
		checkOf(t, head(gen, apex)+plainPieces(other)+pieces(samples), gen, apex, records(samples))
		checkRead(t, apex, append(lines(samples), modelLine(other)), set)
		checkRead(t, apex, with(lines(samples), 0, modelLine(other)), records(samples))
		checkRead(t, apex, append(lines(samples), modelLine(other), s.line), records(samples))
		checkRead(t, apex, append(lines(samples), s.line, s.line, modelLine(other)), set)
	}
}

// spoiled passes s with one byte changed, left out or put in, everywhere.
func spoiled(s string, bytes []byte, visit func(s string)) {
	for i := range len(s) + 1 {
		for _, c := range bytes {
			visit(s[:i] + string([]byte{c}) + s[i:])
			if i < len(s) {
				visit(s[:i] + string([]byte{c}) + s[i+1:])
			}
		}
		if i < len(s) {
			visit(s[:i] + s[i+1:])
			for _, by := range []int{-2, -1, 1, 2, 32} {
				visit(s[:i] + string([]byte{s[i] + byte(by)}) + s[i+1:])
			}
		}
		visit(s[:i])
		visit(s[i:])
	}
}

func TestSpoiledImages(t *testing.T) {
	images, others := 0, 0
	for _, l := range [][]sample{small, samples, {soaOfA, nsOfA, samples[8]}} {
		spoiled(head(gen, apex)+pieces(l), []byte{0, 1, 2, 3, 4, 'a', 'A', 0x7f, 0x80, 0xc0, 0xff}, func(s string) {
			if checkOfModel(t, s) {
				images++
			} else {
				others++
			}
		})
	}
	if images < 500 || others < 5000 {
		t.Errorf("%d images, %d others", images, others)
	}
}

// many are n different records of the zone a., the first ones those of the small zone.
func many(n int) []api.RR {
	l := records(small)
	for i := range n - len(small) {
		l = append(l, rr("\x01x\x01a\x00", 300, in, i%100, number(uint64(i), 3)))
	}
	return l
}

func TestMaxZone(t *testing.T) {
	full := many(maxZone)
	z := mustZone(t, apex, full)
	want := head(gen, apex) + pieces(small) + plainPieces(full[2:]...)
	if want != modelBytes(gen, z) {
		t.Error("the model has other bytes")
	}
	checkBytes(t, gen, z, want)
	checkOf(t, want, gen, apex, full)
	checkNoImage(t, want[:len(want)-1], api.ErrForm)
	checkLines(t, z, modelLines(full))
	checkRead(t, apex, modelLines(full), full)
	// Records that occur again do not count.
	checkOf(t, want+pieces(small), gen, apex, full)
	checkRead(t, apex, append(lines(small), modelLines(full)...), full)
}

func TestMoreThanMaxZone(t *testing.T) {
	over := many(maxZone + 1)
	b, l := plainPieces(over...), modelLines(over)
	checkNoImage(t, head(gen, apex)+b, api.ErrLong)
	checkNoRead(t, apex, l, api.ErrLong)
	// Wrong bytes or lines, and an apex that is not a name, come first.
	checkNoImage(t, head(gen, apex)+b+"\x00", api.ErrForm)
	checkNoImage(t, head(gen, apex)+b[:len(b)-1], api.ErrForm)
	checkNoImage(t, head(gen, "\x01a")+b, api.ErrForm)
	checkNoRead(t, apex, append(slices.Clone(l), "b.a. 99 1 0"), api.ErrForm)
	checkNoRead(t, apex, with(l, 0, "b.a. 99 1 0"), api.ErrForm)
	checkNoRead(t, apex, append(slices.Clone(l), "b.a. 1 1 0 616263"), api.ErrForm)
	checkNoRead(t, "\x01a", l, api.ErrForm)
	// Being no zone comes afterwards.
	checkNoImage(t, head(gen, "\x01b\x00")+b, api.ErrLong)
	checkNoRead(t, "\x01b\x00", l, api.ErrLong)
	tooMany := many(maxZone + 3)[len(small):]
	checkNoImage(t, head(gen, apex)+plainPieces(tooMany...), api.ErrLong)
	checkNoRead(t, apex, modelLines(tooMany), api.ErrLong)
	checkNoImage(t, head(gen, apex)+plainPieces(tooMany[1:]...), api.ErrApex)
	checkNoRead(t, apex, modelLines(tooMany[1:]), api.ErrApex)
}

// P18.2

func TestLines(t *testing.T) {
	checkLines(t, mustZone(t, apex, records(small)), []string{"a. 2 1 0 016100", "a. 6 1 3600 014d016100016100" + digitsOfNumbers})
	checkLines(t, mustZone(t, apex, records(samples)), lines(samples))
	checkLines(t, mustZone(t, apex, reversed(records(samples))), lines(samples))
	checkLines(t, mustZone(t, apex, slices.Concat(records(samples), records(samples))), lines(samples))
}

func TestLinesOfTheRoot(t *testing.T) {
	l := []api.RR{rr(root, ns, in, 0, root), rr(root, soa, in, 1, root+root+numbers), rr(root, 65534, in, maxTTL, ""), rr("\x01.\x00", a, in, 10, "\x0a\x00\x00\x01")}
	want := []string{". 2 1 0 00", ". 6 1 1 0000" + digitsOfNumbers, ". 65534 1 2147483647 ", "\\.. 1 1 10 0a000001"}
	checkLines(t, mustZone(t, root, l), want)
	checkRead(t, root, want, l)
	checkRead(t, root, reversed(want), l)
}

func TestLinesOfEachByteOfAName(t *testing.T) {
	for c := range 256 {
		for _, label := range []string{single(c), single(c) + single(c), "a" + single(c), single(c) + "1"} {
			l := append(records(small), rr(below(label, apex), 300, in, 5, "abc"))
			checkLines(t, mustZone(t, apex, l), modelLines(l))
			checkRead(t, apex, modelLines(l), l)
		}
	}
	for text, label := range map[string]string{"a": "a", "Z": "Z", "0": "0", "!": "!", "~": "~", "-": "-", "\\.": ".", "\\\\": "\\", "\\032": " ", "\\000": "\x00", "\\009": "\t", "\\010": "\n", "\\127": "\x7f", "\\128": "\x80", "\\255": "\xff"} {
		l := append(records(small), rr(below(label, apex), 300, in, 5, "\x00"))
		checkLines(t, mustZone(t, apex, l), append(lines(small), text+".a. 300 1 5 00"))
	}
}

func TestLinesOfEachNumber(t *testing.T) {
	for text, n := range map[string]int{"3": 3, "7": 7, "10": 10, "99": 99, "100": 100, "256": 256, "999": 999, "1000": 1000, "9999": 9999, "10000": 10000, "65535": 65535} {
		r := rr("\x01x\x01a\x00", n, in, 5, "A")
		checkLines(t, mustZone(t, apex, append(records(small), r)), append(lines(small), "x.a. "+text+" 1 5 41"))
		checkLine(t, "x.a. "+text+" 1 5 41", r)
	}
	for text, n := range map[string]int{
		"0": 0, "1": 1, "9": 9, "10": 10, "100": 100, "255": 255, "256": 256, "65535": 65535, "65536": 65536, "999999999": 999999999, "1000000000": 1000000000,
		"2000000000": 2000000000, "2147483646": 2147483646, "2147483647": 2147483647,
	} {
		r := rr("\x01x\x01a\x00", 300, in, n, "")
		checkLines(t, mustZone(t, apex, append(records(small), r)), append(lines(small), "x.a. 300 1 "+text+" "))
		checkLine(t, "x.a. 300 1 "+text+" ", r)
	}
}

func TestLinesOfEachByteOfTheData(t *testing.T) {
	digits := "0123456789abcdef"
	data, all := "", ""
	for c := range 256 {
		text := digits[c/16:c/16+1] + digits[c%16:c%16+1]
		data += single(c)
		all += text
		r := rr("\x01x\x01a\x00", 300, in, 5, single(c))
		checkLines(t, mustZone(t, apex, append(records(small), r)), append(lines(small), "x.a. 300 1 5 "+text))
		checkLine(t, "x.a. 300 1 5 "+text, r)
	}
	r := rr("\x01x\x01a\x00", 300, in, 5, data)
	checkLines(t, mustZone(t, apex, append(records(small), r)), append(lines(small), "x.a. 300 1 5 "+all))
	checkLine(t, "x.a. 300 1 5 "+all, r)
}

func TestTheGreatestData(t *testing.T) {
	for _, size := range []int{0, 1, maxData - 1, maxData} {
		r := rr("\x01x\x01a\x00", 300, in, 5, strings.Repeat("J", size))
		l := append(records(small), r)
		z := mustZone(t, apex, l)
		checkImage(t, gen, z, head(gen, apex)+pieces(small)+plainPieces(r))
		checkLines(t, z, append(lines(small), "x.a. 300 1 5 "+strings.Repeat("4a", size)))
		checkLine(t, "x.a. 300 1 5 "+strings.Repeat("4a", size), r)
	}
	for _, size := range []int{maxData + 1, maxData + 2, 2 * maxData} {
		checkWrongLine(t, "x.a. 300 1 5 "+strings.Repeat("4a", size))
	}
}

func TestLinesOfTheLongestNames(t *testing.T) {
	top, _ := least(root)
	for _, n := range []string{longest, strings.Repeat("\x01x", 127) + "\x00", wire(strings.Repeat("\xff", 63), strings.Repeat("\\", 63), strings.Repeat(".", 63), strings.Repeat(" ", 61))} {
		l := append(slices.Clone(top), rr(n, ptr, in, 5, n))
		z := mustZone(t, root, l)
		checkImage(t, gen, z, modelBytes(gen, z))
		checkLines(t, z, modelLines(l))
		checkRead(t, root, modelLines(l), l)
		checkRead(t, root, reversed(modelLines(l)), l)
	}
}

func TestReadOfNoLines(t *testing.T) {
	checkNoRead(t, apex, nil, api.ErrApex)
	checkNoRead(t, root, []string{}, api.ErrApex)
	checkNoRead(t, "\x01a", nil, api.ErrForm)
	checkNoRead(t, "", []string{}, api.ErrForm)
}

func TestLinesInAnotherOrder(t *testing.T) {
	random := rand.New(rand.NewSource(3))
	checkRead(t, apex, lines(samples), records(samples))
	checkRead(t, apex, reversed(lines(samples)), records(samples))
	checkRead(t, apex, []string{soaOfA.line, nsOfA.line, soaOfA.line}, records(small))
	for i := range samples {
		for j := range len(samples) + 1 {
			checkRead(t, apex, with(lines(samples), j, samples[i].line), records(samples))
		}
	}
	for range 200 {
		checkRead(t, apex, shuffled(random, lines(samples)), records(samples))
		checkRead(t, apex, shuffled(random, slices.Concat(lines(samples), lines(samples))), records(samples))
	}
}

func TestLinesWithoutFiveWords(t *testing.T) {
	checkLine(t, "b.a. 99 1 0 ", rr("\x01b\x01a\x00", 99, in, 0, ""))
	checkLine(t, "b.a. 99 1 0 00", rr("\x01b\x01a\x00", 99, in, 0, "\x00"))
	for _, line := range []string{
		"", " ", "  ", "    ", "     ", "x", "b.a.", "b.a. ", "b.a. 99", "b.a. 99 1", "b.a. 99 1 ", "b.a. 99 1 0", "99 1 0 00", "1 0 00", "00",
		"b.a. 1 0 00", "b.a. 99 0 00", "b.a. 99 1 00", " 99 1 0 00",
		"b.a. 99 1 0 00 00", "b.a. 99 1 0 00 ", "b.a. 99 1 0  ", "b.a. 99 1 0 0 0", "b.a. 99 1 0 5 00", "b.a. b.a. 99 1 0 00", "b.a. 99 1 0 00 x", "b.a. 99 1 0 00 b.a. 99 1 0 00",
		" b.a. 99 1 0 00", " b.a. 99 1 0 ", "  b.a. 99 1 0 00", "b.a.  99 1 0 00", "b.a. 99  1 0 00", "b.a. 99 1  0 00", "b.a. 99 1 0  00", "b.a.  1 0 00", "b.a. 99  0 00", "b.a. 99 1  00",
		"b.a.99 1 0 00", "b.a. 991 0 00", "b.a. 99 10 00", "b.a. 99 1 000",
		"b. a. 99 1 0 00", "\\ .a. 99 1 0 00", "b\\ .a. 99 1 0 00", "b c.a. 99 1 0 00", "b.a.\\ 99 1 0 00",
	} {
		checkWrongLine(t, line)
	}
}

// White space other than a blank separates nothing.
func TestOtherWhiteSpace(t *testing.T) {
	for _, w := range []string{"\t", "\n", "\r", "\r\n", "\v", "\f", "\x00", "\u00a0", "\u0085", "\u2003", "\xa0", "\x85", ",", "_"} {
		words := []string{"b.a.", "99", "1", "0", "00"}
		for i := range 4 {
			checkWrongLine(t, strings.Join(words[:i+1], " ")+w+strings.Join(words[i+1:], " "))
			checkWrongLine(t, strings.Join(words[:i+1], " ")+w+" "+strings.Join(words[i+1:], " "))
		}
		for i := 1; i < 5; i++ {
			checkWrongLine(t, strings.Join(words[:i], " ")+" "+w+strings.Join(words[i:], " "))
		}
		checkWrongLine(t, strings.Join(words, w))
		checkWrongLine(t, strings.Join(words, " ")+w)
		checkWrongLine(t, "b.a. 99 1 0 "+w)
		checkWrongLine(t, w)
		// In the name it stands for itself.
		checkLine(t, w+"b.a. 99 1 0 00", rr(below(w+"b", apex), 99, in, 0, "\x00"))
		checkLine(t, "b"+w+".a. 99 1 0 00", rr(below("b"+w, apex), 99, in, 0, "\x00"))
	}
}

func TestTheNamesOfLines(t *testing.T) {
	for text, label := range map[string]string{"b": "b", "B": "B", "\\b": "b", "\\066": "B", "\\.": ".", "\\046": ".", "\\\\": "\\", "\\032": " ", "\x00": "\x00", "\xff": "\xff", "\t": "\t", "\"": "\"", "\\*": "*", "\\\xff": "\xff", "@": "@", strings.Repeat("\\255", 63): strings.Repeat("\xff", 63)} {
		checkLine(t, text+".a. 99 1 0 00", rr(below(label, apex), 99, in, 0, "\x00"))
		checkLine(t, text+".\\A. 99 1 0 00", rr(below(label, "\x01A\x00"), 99, in, 0, "\x00"))
	}
	for _, text := range []string{
		"", "a", "b.a", ".b.a.", "b..a.", "b.a..", "..", "...", ".a.", "\\", "\\.", "b.a.\\", "b.a\\.", "b.\\", "b.a.\\1", "b.a.\\12", "b.a.\\123",
		"\\1.a.", "\\12.a.", "\\1b.a.", "\\12b.a.", "\\256.a.", "\\300.a.", "\\999.a.", "\\25\xff.a.",
		letters(64) + ".a.", strings.Repeat("\\097", 64) + ".a.", strings.Repeat("a.", 128), modelText(tooLong),
		letters(63) + "." + letters(63) + "." + letters(63) + "." + letters(62) + ".", "\x01b\x01a\x00", "\x00",
	} {
		checkWrongLine(t, text+" 99 1 0 00")
		checkWrongLine(t, text+" 99 1 0 ")
		checkWrongLine(t, text+" 1 1 5 61626364")
	}
}

// notNumbers are words that no type, class or TTL is.
var notNumbers = []string{
	"", "-0", "-1", "-2", "-9", "+0", "+1", "+5", "--1", "-", "+", "00", "01", "001", "05", "000", "010", "0000000001", "00000000001", "000000000000000000001",
	"10000000000", "12345678901", "99999999999", "100000000000", "4294967296", "4294967297", "4294967301", "4294967395", "9999999999", "3000000000", "2147483648",
	"18446744073709551616", "18446744073709551617", "18446744073709551621", "9223372036854775807", "9223372036854775808", "340282366920938463463374607431768211457",
	"1.", "1.0", "1,0", ".1", "1e0", "1e1", "0x1", "0b1", "0o1", "1_0", "1h", "a", "f", "ff", "A", "x1", "1x", "1-", "1+", "1\x00", "\x001", "１", "١", "²", "\xb2", "\xff", "!", "/", ":", "9:", "/9", "one", "NaN", "Inf", "1'",
}

func TestTheNumbersOfLines(t *testing.T) {
	for _, word := range notNumbers {
		checkWrongLine(t, "b.a. "+word+" 1 0 00")
		checkWrongLine(t, "b.a. 99 "+word+" 0 00")
		checkWrongLine(t, "b.a. 99 1 "+word+" 00")
		checkWrongLine(t, "b.a. 99 1 "+word+" ")
		checkWrongLine(t, "b.a. "+word+" "+word+" "+word+" ")
	}
	for _, word := range []string{"65536", "65537", "65635", "100000", "131071", "999999999", "1000000000", "2147483647"} {
		checkWrongLine(t, "b.a. "+word+" 1 0 00")
		checkWrongLine(t, "b.a. 99 "+word+" 0 00")
		checkReadModel(t, apex, append(lines(small), "b.a. 99 1 "+word+" 00"))
	}
	// Numbers that fit, but not into a zone.
	for _, line := range []string{"b.a. 0 1 0 00", "b.a. 99 0 0 00", "b.a. 99 2 0 00", "b.a. 99 65535 0 00", "b.a. 1 254 0 ", "b.a. 41 1 0 00", "b.a. 128 1 0 00", "b.a. 255 1 0 00"} {
		checkNoRead(t, apex, append(lines(small), line), api.ErrApex)
		checkNoRead(t, apex, with(lines(small), 0, line), api.ErrApex)
	}
}

// shortWords are all words of up to three of these bytes.
func shortWords(bytes string) []string {
	l := []string{""}
	for from, n := 0, 0; n < 3; n++ {
		to := len(l)
		for _, word := range l[from:to] {
			for i := range len(bytes) {
				l = append(l, word+bytes[i:i+1])
			}
		}
		from = to
	}
	return l
}

func TestAllShortWords(t *testing.T) {
	zones := 0
	for _, word := range shortWords("0159afAg+- .\\\t") {
		for _, line := range []string{word + "b.a. 99 1 0 00", word + " 99 1 0 00", "b.a. " + word + " 1 0 00", "b.a. 99 " + word + " 0 00", "b.a. 99 1 " + word + " 00", "b.a. 99 1 0 " + word, "b.a. 99 1 0" + word} {
			if checkReadModel(t, apex, append(lines(small), line)) {
				zones++
			}
			if checkReadModel(t, apex, []string{line}) {
				t.Errorf("%s is a zone", line)
			}
		}
	}
	if zones < 300 {
		t.Errorf("only %d lines were right", zones)
	}
}

func TestTheDataOfLines(t *testing.T) {
	digits := "0123456789abcdef"
	for c := range 256 {
		if strings.Contains(digits, single(c)) || c == ' ' {
			continue
		}
		for _, word := range []string{single(c), single(c) + "0", "0" + single(c), single(c) + single(c), "00" + single(c) + "0", "000" + single(c), single(c) + "000", "0" + single(c) + "00", "00" + single(c)} {
			checkWrongLine(t, "b.a. 99 1 0 "+word)
		}
	}
	for _, word := range []string{"0", "1", "f", "000", "abc", "00000", "0A", "A0", "AF", "FF", "aB", "Ab", "0x00", "00\n", "0 ", " 0", "0 0", "00 00", "é", "é0", "¹¹", "-1", "+1", strings.Repeat("0", 131069), strings.Repeat("0", 131071)} {
		checkWrongLine(t, "b.a. 99 1 0 "+word)
		checkWrongLine(t, "a. 99 1 0 "+word)
	}
	// The digits are right, but not the data of the type.
	for _, line := range []string{"b.a. 1 1 0 ", "b.a. 1 1 0 00", "b.a. 1 1 0 0000000000", "b.a. 2 1 0 0162", "b.a. 16 1 0 ", "b.a. 28 1 0 00000000", "b.a. 33 1 0 414243444546c000"} {
		checkWrongLine(t, line)
	}
}

func TestSpoiledLines(t *testing.T) {
	zones, others := 0, 0
	for i, s := range samples {
		spoiled(s.line, []byte("09afAF+-. \\\t\x00\xff"), func(line string) {
			l := lines(samples)
			l[i] = line
			if checkReadModel(t, apex, l) {
				zones++
			} else {
				others++
			}
		})
	}
	if zones < 1000 || others < 5000 {
		t.Errorf("%d zones, %d others", zones, others)
	}
}

// P18.3

// randomData is valid for the type.
func randomData(random *rand.Rand, typ int, n string) string {
	some := func(size int) string {
		b := make([]byte, size)
		random.Read(b)
		return string(b)
	}
	switch typ {
	case a:
		return some(4)
	case ns, ptr:
		return n
	case mx:
		return some(2) + n
	case srv:
		return some(6) + n
	case txt:
		return piece(some(random.Intn(256)), 1) + piece(some(random.Intn(3)), 1)
	case aaaa:
		return some(16)
	}
	return some(random.Intn(40))
}

// randomName is under the apex.
func randomName(random *rand.Rand, apex string) string {
	n := apex
	for range random.Intn(4) {
		label := ""
		for range 1 + random.Intn(3) {
			label += single([]int{'a', 'A', 'b', '.', '\\', '*', random.Intn(256)}[random.Intn(7)])
		}
		n = piece(label, 1) + n
	}
	return n
}

func randomZone(t *testing.T, random *rand.Rand) zone.Zone {
	t.Helper()
	n := randomName(random, root)
	l := []api.RR{rr(n, ns, in, 5, randomName(random, n)), rr(n, soa, in, random.Intn(maxTTL), randomName(random, n)+randomName(random, root)+numbers)}
	for range random.Intn(20) {
		typ := []int{a, ns, ptr, mx, txt, aaaa, srv, 256 + random.Intn(65280)}[random.Intn(8)]
		l = append(l, rr(randomName(random, n), typ, in, random.Intn(maxTTL), randomData(random, typ, randomName(random, n))))
	}
	return mustZone(t, n, shuffled(random, l))
}

func TestAZoneIsReadBack(t *testing.T) {
	random := rand.New(rand.NewSource(4))
	for range 2000 {
		z := randomZone(t, random)
		gen := random.Uint64()
		checkImage(t, gen, z, modelBytes(gen, z))
		checkLines(t, z, modelLines(z.All()))
		l := image.Lines(z)
		for _, order := range [][]string{l, reversed(l), shuffled(random, l), shuffled(random, slices.Concat(l, l))} {
			checkRead(t, z.Apex(), order, z.All())
		}
		y, e := image.Read(z.Apex(), shuffled(random, l))
		if e != api.OK {
			t.Errorf("Read: %d", e)
		}
		checkBytes(t, gen, y, image.Bytes(gen, z))
		checkLines(t, y, l)
	}
}

// A zone with another serial has another image, and the same one with the old serial again.
func TestAZoneWithAnotherSerial(t *testing.T) {
	z := mustZone(t, apex, records(samples))
	y := z.WithSerial(0xdeadbeef)
	l := lines(samples)
	l[3] = "a. 6 1 3600 014d016100016100" + "deadbeef" + digitsOfNumbers[8:]
	checkLines(t, y, l)
	checkRead(t, apex, l, y.All())
	checkImage(t, 9, y, modelBytes(9, y))
	checkImage(t, gen, y.WithSerial(0x41424344), head(gen, apex)+pieces(samples))
	checkImage(t, gen, z, head(gen, apex)+pieces(samples))
}

// R5 and R7

// Zones that were read, and lists that were returned, stay as they are whatever is called or written over afterwards.
func TestResultsAreIndependent(t *testing.T) {
	z := mustZone(t, apex, records(samples))
	b, l := image.Bytes(gen, z), image.Lines(z)
	_, y, _ := image.Of(b)
	given := append(slices.Clone(l), foreign)[:len(l)]
	x, _ := image.Read(apex, given)
	for _, other := range [][]string{image.Lines(z), image.Lines(y), given} {
		other = other[:cap(other)]
		for i := range other {
			other[i] = scribble
		}
	}
	image.Of(head(7, "\x01A\x00") + pieces(small))
	image.Read("\x01A\x00", lines(small))
	image.Bytes(7, mustZone(t, "\x01A\x00", records(small)))
	if !slices.Equal(l, lines(samples)) || b != head(gen, apex)+pieces(samples) {
		t.Errorf("%s, %s", brief(b), toldLines(l))
	}
	for _, w := range []zone.Zone{z, y, x} {
		checkZone(t, "a zone", w, apex, records(samples))
		checkZone(t, "a zone with another serial", w.WithSerial(1).WithSerial(0x41424344), apex, records(samples))
		checkBytes(t, gen, w, b)
		checkLines(t, w, l)
	}
}

func TestAnythingEnds(t *testing.T) {
	random := rand.New(rand.NewSource(5))
	some := "\x00\x01\x02\x04\x0fa. 09\\\xff\xc0"
	for range 20000 {
		s := make([]byte, random.Intn(40))
		for i := range s {
			s[i] = some[random.Intn(len(some))]
		}
		checkOfModel(t, string(s))
		checkOfModel(t, head(gen, apex)+pieces(small)+string(s))
		checkReadModel(t, apex, append(lines(small), string(s)))
		checkReadModel(t, string(s), lines(small))
	}
	for _, s := range []string{strings.Repeat(" ", 100000), strings.Repeat("0", 100000), strings.Repeat("\\", 100000), strings.Repeat("a.", 100000), strings.Repeat("\xff", 100000)} {
		checkWrongLine(t, s)
		checkWrongLine(t, s+" 99 1 0 00")
		checkWrongLine(t, "b.a. "+s+" 1 0 00")
		checkNoImage(t, s, api.ErrForm)
	}
}
