package message_test

import (
	"fmt"
	"math"
	"math/rand"
	"slices"
	"strings"
	"testing"

	"beadroll/api"
	"beadroll/message"
)

// longest is a name of MaxName bytes; tooLong has one byte more, and is otherwise a name.
var (
	longest = wire(strings.Repeat("a", 63), strings.Repeat("B", 63), strings.Repeat("c", 63), strings.Repeat("d", 61))
	tooLong = wire(strings.Repeat("a", 63), strings.Repeat("B", 63), strings.Repeat("c", 63), strings.Repeat("d", 62))
)

// numbers are those of an SOA.
const numbers = "ABCDEFGHIJKLMNOPQRST"

// wrongNames are strings that are not names.
var wrongNames = []string{
	"",
	"\x01",
	"\x01a",
	"\x00\x00",
	"\x01a\x00\x00",
	"\x01a\x00\x01b\x00",
	"\x01a\x02b\x00",
	"a.",
	"\xc0\x00",
	"\xc0\x0c",
	"\x01a\xc0\x0c",
	"\x40" + strings.Repeat("a", 64) + "\x00",
	strings.Repeat("\x01a", 128) + "\x00",
	tooLong,
}

// wrongRecords are records that are not valid.
var wrongRecords = []api.RR{
	{},
	rr("", a, in, 5, "abcd"),
	rr("\x01a", a, in, 5, "abcd"),
	rr("\xc0\x0c", a, in, 5, "abcd"),
	rr(tooLong, a, in, 5, "abcd"),
	rr("\x01a\x00", -1, in, 5, "abcd"),
	rr("\x01a\x00", 65536, in, 5, "abcd"),
	rr("\x01a\x00", 65536+a, in, 5, "abcd"),
	rr("\x01a\x00", a, -1, 5, "abcd"),
	rr("\x01a\x00", a, 65536, 5, "abcd"),
	rr("\x01a\x00", a, 65536+in, 5, "abcd"),
	rr("\x01a\x00", a, in, -1, "abcd"),
	rr("\x01a\x00", a, in, maxTTL+1, "abcd"),
	rr("\x01a\x00", a, in, 1<<32, "abcd"),
	rr("\x01a\x00", a, in, 5, ""),
	rr("\x01a\x00", a, in, 5, "abc"),
	rr("\x01a\x00", a, none, 5, "abc"),
	rr("\x01a\x00", ns, in, 5, "\x01b"),
	rr("\x01a\x00", ns, in, 5, "\xc0\x0c"),
	rr("\x01a\x00", ns, none, 5, "\xc0\x0c"),
	rr("\x01a\x00", 99, in, 5, strings.Repeat("A", 65536)),
	rr("\x01a\x00", 99, anyClass, 5, strings.Repeat("A", 65536)),
}

func wire(labels ...string) string {
	n := ""
	for _, l := range labels {
		n += string([]byte{byte(len(l))}) + l
	}
	return n + "\x00"
}

// pointer is the two bytes of a pointer to an offset.
func pointer(to int) string {
	return two(0xc000 + to)
}

func rr(n string, typ, class, ttl int, data string) api.RR {
	return api.RR{Name: n, Type: typ, Class: class, TTL: ttl, Data: data}
}

func question(n string, typ, class int) api.Question {
	return api.Question{Name: n, Type: typ, Class: class}
}

// head are the first twelve bytes of a message.
func head(id, bits, q, an, ns, ad int) string {
	return two(id) + two(bits) + two(q) + two(an) + two(ns) + two(ad)
}

// asked are the bytes of a question whose name stands there like this.
func asked(n string, typ, class int) string {
	return n + two(typ) + two(class)
}

// bytesOf are the bytes of a record whose name and data stand there like this.
func bytesOf(n string, typ, class, ttl int, data string) string {
	return n + two(typ) + two(class) + four(ttl) + two(len(data)) + data
}

// sections are the sections of records in their order.
func sections(m *message.Msg) []*[]api.RR {
	return []*[]api.RR{&m.An, &m.Ns, &m.Ad}
}

// same compares two messages; an empty list is the same as none.
func same(m, other message.Msg) bool {
	return m.ID == other.ID && m.QR == other.QR && m.Op == other.Op && m.AA == other.AA && m.TC == other.TC && m.RD == other.RD && m.RA == other.RA &&
		m.Z == other.Z && m.Rcode == other.Rcode && slices.Equal(m.Q, other.Q) &&
		slices.Equal(m.An, other.An) && slices.Equal(m.Ns, other.Ns) && slices.Equal(m.Ad, other.Ad)
}

// copyOf shares no list with m.
func copyOf(m message.Msg) message.Msg {
	m.Q, m.An, m.Ns, m.Ad = slices.Clone(m.Q), slices.Clone(m.An), slices.Clone(m.Ns), slices.Clone(m.Ad)
	return m
}

// brief is s for a message, without most of a long text.
func brief(s string) string {
	if len(s) > 60 {
		return fmt.Sprintf("%q.. (%d bytes)", s[:60], len(s))
	}
	return fmt.Sprintf("%q", s)
}

// told is m for a message, without most of a long one.
func told(m message.Msg) string {
	s := fmt.Sprintf("{ID %d QR %v Op %d AA %v TC %v RD %v RA %v Z %d Rcode %d, %d %d %d %d elements: ", m.ID, m.QR, m.Op, m.AA, m.TC, m.RD, m.RA, m.Z, m.Rcode, len(m.Q), len(m.An), len(m.Ns), len(m.Ad))
	for _, q := range m.Q[:min(2, len(m.Q))] {
		s += fmt.Sprintf("%s %d %d; ", brief(q.Name), q.Type, q.Class)
	}
	for _, r := range slices.Concat(m.An, m.Ns, m.Ad)[:min(3, len(m.An)+len(m.Ns)+len(m.Ad))] {
		s += fmt.Sprintf("%s %d %d %d %s; ", brief(r.Name), r.Type, r.Class, r.TTL, brief(r.Data))
	}
	return s + "}"
}

// checkRefused checks that m is not encoded; with ErrLong, it is well formed all the same.
func checkRefused(t *testing.T, m message.Msg, want api.Errno) {
	t.Helper()
	before := copyOf(m)
	if got := message.Formed(m); got != (want == api.ErrLong) {
		t.Errorf("Formed(%s) = %v", told(m), got)
	}
	if b, e := message.Encode(m); b != "" || e != want {
		t.Errorf("Encode(%s) = %s, %v; want %v", told(m), brief(b), e, want)
	}
	if !same(m, before) {
		t.Errorf("Encode(%s) changed it to %s", told(before), told(m))
	}
}

// checkEncode checks the bytes of m, and that they are decoded again.
func checkEncode(t *testing.T, m message.Msg, want string) {
	t.Helper()
	before := copyOf(m)
	if !message.Formed(m) {
		t.Errorf("Formed(%s) = false", told(m))
	}
	b, e := message.Encode(m)
	if b != want || e != api.OK {
		i := 0
		for i < len(b) && i < len(want) && b[i] == want[i] {
			i++
		}
		t.Errorf("Encode(%s) = %d bytes, %v: from the offset %d on %s; want %s", told(m), len(b), e, i, brief(b[i:]), brief(want[i:]))
	}
	if !same(m, before) {
		t.Errorf("Encode(%s) changed it to %s", told(before), told(m))
	}
	checkDecode(t, want, m)
}

// checkEncoded compares Encode with the model.
func checkEncoded(t *testing.T, m message.Msg) {
	t.Helper()
	want, e := modelEncode(m)
	if e != api.OK {
		checkRefused(t, m, e)
		return
	}
	checkEncode(t, m, want)
}

func checkDecode(t *testing.T, b string, want message.Msg) {
	t.Helper()
	if m, e := message.Decode(b); !same(m, want) || e != api.OK {
		t.Errorf("Decode(%s) = %s, %v; want %s", brief(b), told(m), e, told(want))
	}
	want.Q, want.An, want.Ns, want.Ad = nil, nil, nil, nil
	checkHead(t, b, want)
}

func checkHead(t *testing.T, b string, want message.Msg) {
	t.Helper()
	if m, e := message.Head(b); !same(m, want) || e != api.OK {
		t.Errorf("Head(%s) = %s, %v; want %s", brief(b), told(m), e, told(want))
	}
}

func checkNoDecode(t *testing.T, b string) {
	t.Helper()
	if m, e := message.Decode(b); !same(m, message.Msg{}) || e != api.ErrForm {
		t.Errorf("Decode(%s) = %s, %v", brief(b), told(m), e)
	}
}

// checkWithModel compares Decode with the model.
func checkWithModel(t *testing.T, b string) {
	t.Helper()
	want, e := modelDecode(b)
	if e != api.OK {
		checkNoDecode(t, b)
		return
	}
	checkDecode(t, b, want)
}

func checkReply(t *testing.T, m message.Msg, code api.Rcode, want message.Msg) {
	t.Helper()
	before := copyOf(m)
	if got := message.Reply(m, code); !same(got, want) {
		t.Errorf("Reply(%s, %d) = %s; want %s", told(m), code, told(got), told(want))
	}
	if !same(m, before) {
		t.Errorf("Reply(%s, %d) changed it to %s", told(before), code, told(m))
	}
}

// P12.1

func TestEncodeOfTheExample(t *testing.T) {
	m := message.Msg{ID: 1, RD: true, Q: []api.Question{question("\x01a\x00", a, in)}}
	checkEncode(t, m, "\x00\x01\x01\x00\x00\x01\x00\x00\x00\x00\x00\x00\x01\x61\x00\x00\x01\x00\x01")
}

func TestEncodeOfTheZeroMessage(t *testing.T) {
	checkEncode(t, message.Msg{}, strings.Repeat("\x00", 12))
}

// outside are numbers outside of the range from 0 to top, some of which are inside if they are cut off to fewer bits.
func outside(top int) []int {
	l := []int{-1, -2, -top, -top - 1, top + 1, top + 2, 2 * (top + 1), 2*(top+1) + 1, 65536, 65537, -65536, 1 << 31, 1<<31 - 1, -1 << 31, 1<<32 - 1, 1 << 32, 1<<32 + 1, -1 << 32, 1 << 48, 1<<60 + 1, math.MinInt, math.MinInt + 1, math.MaxInt - 1, math.MaxInt}
	return slices.DeleteFunc(l, func(n int) bool { return inRange(n, top) })
}

func TestEncodeOfEachID(t *testing.T) {
	for id := range 65536 {
		checkEncode(t, message.Msg{ID: id}, two(id)+strings.Repeat("\x00", 10))
	}
	for _, id := range outside(65535) {
		checkRefused(t, message.Msg{ID: id}, api.ErrArg)
	}
}

func TestEncodeOfEachOp(t *testing.T) {
	for op := range 16 {
		checkEncode(t, message.Msg{Op: op}, head(0, op*2048, 0, 0, 0, 0))
	}
	for _, op := range outside(15) {
		checkRefused(t, message.Msg{Op: op}, api.ErrArg)
	}
}

func TestEncodeOfEachZ(t *testing.T) {
	for z := range 8 {
		checkEncode(t, message.Msg{Z: z}, head(0, z*16, 0, 0, 0, 0))
	}
	for _, z := range outside(7) {
		checkRefused(t, message.Msg{Z: z}, api.ErrArg)
	}
}

func TestEncodeOfEachRcode(t *testing.T) {
	for code := range 16 {
		checkEncode(t, message.Msg{Rcode: api.Rcode(code)}, head(0, code, 0, 0, 0, 0))
	}
	for _, code := range outside(15) {
		checkRefused(t, message.Msg{Rcode: api.Rcode(code)}, api.ErrArg)
	}
}

func TestEncodeOfEachFlagAlone(t *testing.T) {
	for _, x := range []struct {
		m    message.Msg
		bits string
	}{
		{message.Msg{QR: true}, "\x80\x00"},
		{message.Msg{AA: true}, "\x04\x00"},
		{message.Msg{TC: true}, "\x02\x00"},
		{message.Msg{RD: true}, "\x01\x00"},
		{message.Msg{RA: true}, "\x00\x80"},
		{message.Msg{Op: 1}, "\x08\x00"},
		{message.Msg{Op: 8}, "\x40\x00"},
		{message.Msg{Op: 15}, "\x78\x00"},
		{message.Msg{Z: 1}, "\x00\x10"},
		{message.Msg{Z: 4}, "\x00\x40"},
		{message.Msg{Z: 7}, "\x00\x70"},
		{message.Msg{Rcode: 1}, "\x00\x01"},
		{message.Msg{Rcode: 8}, "\x00\x08"},
		{message.Msg{Rcode: 15}, "\x00\x0f"},
		{message.Msg{QR: true, AA: true, TC: true, RD: true, RA: true}, "\x87\x80"},
		{message.Msg{Op: 15, Z: 7, Rcode: 15}, "\x78\x7f"},
		{message.Msg{QR: true, Op: 15, AA: true, TC: true, RD: true, RA: true, Z: 7, Rcode: 15}, "\xff\xff"},
		{message.Msg{QR: true, Op: 5, AA: true, RD: true, Z: 5, Rcode: 3}, "\xad\x53"},
	} {
		checkEncode(t, x.m, "\x00\x00"+x.bits+strings.Repeat("\x00", 8))
		x.m.ID = 65535
		checkEncode(t, x.m, "\xff\xff"+x.bits+strings.Repeat("\x00", 8))
	}
}

func TestEncodeOfAllFlagsTogether(t *testing.T) {
	for n := range 65536 {
		checkEncode(t, ofBits(65535-n, n), head(65535-n, n, 0, 0, 0, 0))
	}
}

func TestEncodeOfEachNumberOfAQuestion(t *testing.T) {
	for _, n := range []int{0, 1, 2, 127, 128, 254, 255, 256, 257, 0x1234, 32767, 32768, 65534, 65535} {
		checkEncode(t, message.Msg{Q: []api.Question{question("\x00", n, 7)}}, head(0, 0, 1, 0, 0, 0)+"\x00"+two(n)+"\x00\x07")
		checkEncode(t, message.Msg{Q: []api.Question{question("\x00", 7, n)}}, head(0, 0, 1, 0, 0, 0)+"\x00\x00\x07"+two(n))
	}
	good := question("\x01a\x00", 0, 0)
	for _, n := range outside(65535) {
		for _, bad := range []api.Question{question("\x01a\x00", n, 0), question("\x01a\x00", 0, n), question("\x01a\x00", n, n)} {
			checkRefused(t, message.Msg{Q: []api.Question{bad}}, api.ErrArg)
			checkRefused(t, message.Msg{Q: []api.Question{bad, good, good}}, api.ErrArg)
			checkRefused(t, message.Msg{Q: []api.Question{good, bad, good}}, api.ErrArg)
			checkRefused(t, message.Msg{Q: []api.Question{good, good, bad}}, api.ErrArg)
		}
	}
}

func TestEncodeOfEachNameOfAQuestion(t *testing.T) {
	for _, n := range []string{"\x00", "\x01a\x00", "\x01A\x00", "\x01*\x00", "\x03wWw\x02\x00.\x01\xff\x00", longest, strings.Repeat("\x01a", 127) + "\x00"} {
		checkEncode(t, message.Msg{Q: []api.Question{question(n, a, in)}}, head(0, 0, 1, 0, 0, 0)+asked(n, a, in))
	}
	good := question("\x01a\x00", a, in)
	for _, n := range wrongNames {
		bad := question(n, a, in)
		checkRefused(t, message.Msg{Q: []api.Question{bad}}, api.ErrArg)
		checkRefused(t, message.Msg{Q: []api.Question{bad, good, good}}, api.ErrArg)
		checkRefused(t, message.Msg{Q: []api.Question{good, bad, good}}, api.ErrArg)
		checkRefused(t, message.Msg{Q: []api.Question{good, good, bad}}, api.ErrArg)
	}
}

func TestEncodeOfARecordThatIsNotValid(t *testing.T) {
	good := rr("\x01a\x00", a, in, 5, "abcd")
	for _, bad := range wrongRecords {
		for i := range 3 {
			for _, l := range [][]api.RR{{bad}, {bad, good, good}, {good, bad, good}, {good, good, bad}, {bad, bad}} {
				m := message.Msg{ID: 1, Q: []api.Question{question("\x01a\x00", a, in)}}
				*sections(&m)[i] = l
				checkRefused(t, m, api.ErrArg)
				for _, section := range sections(&m) {
					*section = append([]api.RR{good}, *section...)
				}
				checkRefused(t, m, api.ErrArg)
			}
		}
	}
}

// validRecords are records in whose bytes no pointer is possible.
var validRecords = []api.RR{
	rr("\x01a\x00", a, in, 5, "\x0a\x00\x00\x01"),
	rr("\x00", 0, 0, 0, ""),
	rr("\x00", 65535, 65535, maxTTL, "\xff"),
	rr("\x01a\x00", aaaa, in, 256, "0123456789ABCDEF"),
	rr("\x01a\x00", ns, in, 65536, "\x01n\x00"),
	rr("\x01a\x00", cname, in, 5, "\x00"),
	rr("\x01a\x00", soa, in, 5, "\x01m\x00\x01r\x00"+numbers),
	rr("\x01a\x00", ptr, in, 5, longest),
	rr("\x01a\x00", mx, in, 5, "\x00\x0a\x01m\x00"),
	rr("\x01a\x00", txt, in, 5, "\x00\x01A"),
	rr("\x01a\x00", srv, in, 5, "ABCDEF\x01s\x00"),
	rr("\x01a\x00", srv, in, 5, "ABCDEF\x01a\x00"),
	rr("\x01a\x00", ns, none, 0, ""),
	rr("\x01a\x00", ns, none, 0, "\x01n\x00"),
	rr("\x01a\x00", ns, anyClass, 0, ""),
	rr("\x01a\x00", ns, anyClass, 0, "\x01a\x00"),
	rr("\x01a\x00", ns, 2, 0, "\xc0\x00"),
	rr("\x01a\x00", 99, in, 5, ""),
	rr("\x01a\x00", 99, in, 5, "\x01a\x00"),
	rr(longest, 99, in, 5, strings.Repeat("A", 60000)),
}

func TestEncodeOfEachValidRecord(t *testing.T) {
	for _, r := range validRecords {
		b := bytesOf(r.Name, r.Type, r.Class, r.TTL, r.Data)
		checkEncode(t, message.Msg{An: []api.RR{r}}, head(0, 0, 0, 1, 0, 0)+b)
		checkEncode(t, message.Msg{Ns: []api.RR{r}}, head(0, 0, 0, 0, 1, 0)+b)
		checkEncode(t, message.Msg{Ad: []api.RR{r}}, head(0, 0, 0, 0, 0, 1)+b)
	}
}

func TestEncodeOfEmptySections(t *testing.T) {
	q, r := question("\x00", a, in), rr("\x00", a, in, 5, "abcd")
	checkEncode(t, message.Msg{ID: 7, Q: []api.Question{}, An: []api.RR{}, Ns: []api.RR{}, Ad: []api.RR{}}, head(7, 0, 0, 0, 0, 0))
	checkEncode(t, message.Msg{ID: 7, Q: nil, An: []api.RR{}, Ns: nil, Ad: []api.RR{}}, head(7, 0, 0, 0, 0, 0))
	checkEncode(t, message.Msg{ID: 7, Q: []api.Question{q}, An: []api.RR{}}, head(7, 0, 1, 0, 0, 0)+asked("\x00", a, in))
	checkEncode(t, message.Msg{ID: 7, Q: []api.Question{}, Ns: []api.RR{r}, Ad: []api.RR{}}, head(7, 0, 0, 0, 1, 0)+bytesOf("\x00", a, in, 5, "abcd"))
}

func TestEncodeOfTheNumbersOfElements(t *testing.T) {
	q, r := question("\x00", a, in), rr("\x00", 99, in, 5, "")
	askedOnce, once := asked("\x00", a, in), bytesOf("\x00", 99, in, 5, "")
	for _, n := range [][4]int{{1, 2, 3, 4}, {4, 3, 2, 1}, {0, 1, 0, 2}, {3, 0, 1, 0}, {258, 0, 0, 0}, {0, 259, 1, 0}, {1, 0, 515, 0}, {0, 1, 0, 771}, {256, 512, 768, 1024}} {
		m := message.Msg{Q: slices.Repeat([]api.Question{q}, n[0]), An: slices.Repeat([]api.RR{r}, n[1]), Ns: slices.Repeat([]api.RR{r}, n[2]), Ad: slices.Repeat([]api.RR{r}, n[3])}
		checkEncode(t, m, head(0, 0, n[0], n[1], n[2], n[3])+strings.Repeat(askedOnce, n[0])+strings.Repeat(once, n[1]+n[2]+n[3]))
	}
}

// A section of 65535 elements is well formed, but no message is long enough for it.
func TestEncodeOfManyElements(t *testing.T) {
	for _, size := range []int{65535, 65536, 65537, 2 * 65536} {
		want := api.ErrLong
		if size > 65535 {
			want = api.ErrArg
		}
		q, l := slices.Repeat([]api.Question{question("\x00", a, in)}, size), slices.Repeat([]api.RR{rr("\x00", 99, in, 5, "")}, size)
		checkRefused(t, message.Msg{Q: q}, want)
		checkRefused(t, message.Msg{An: l}, want)
		checkRefused(t, message.Msg{Ns: l}, want)
		checkRefused(t, message.Msg{Ad: l}, want)
		checkRefused(t, message.Msg{Q: q, An: l, Ns: l, Ad: l}, want)
		checkRefused(t, message.Msg{Q: q[:65535], An: l[:65535], Ns: l[:65535], Ad: l}, want)
	}
}

// The sections follow each other in their order, and the elements of each in theirs.
func TestEncodeOfTheOrderOfElements(t *testing.T) {
	m := message.Msg{
		Q:  []api.Question{question("\x01z\x00", 9, 8), question("\x01y\x00", 7, 6)},
		An: []api.RR{rr("\x01x\x00", 99, 9, 9, "3"), rr("\x01w\x00", 98, 8, 8, "2")},
		Ns: []api.RR{rr("\x01v\x00", 97, 7, 7, "1"), rr("\x01u\x00", 96, 6, 6, "0")},
		Ad: []api.RR{rr("\x01t\x00", 95, 5, 5, "/"), rr("\x01s\x00", 94, 4, 4, ".")},
	}
	want := head(0, 0, 2, 2, 2, 2) + asked("\x01z\x00", 9, 8) + asked("\x01y\x00", 7, 6) +
		bytesOf("\x01x\x00", 99, 9, 9, "3") + bytesOf("\x01w\x00", 98, 8, 8, "2") +
		bytesOf("\x01v\x00", 97, 7, 7, "1") + bytesOf("\x01u\x00", 96, 6, 6, "0") +
		bytesOf("\x01t\x00", 95, 5, 5, "/") + bytesOf("\x01s\x00", 94, 4, 4, ".")
	checkEncode(t, m, want)
}

func TestEncodeOfElementsThatAreTheSame(t *testing.T) {
	q, r := question("\x00", a, in), rr("\x00", a, in, 5, "abcd")
	m := message.Msg{Q: []api.Question{q, q}, An: []api.RR{r, r}, Ns: []api.RR{r}, Ad: []api.RR{r, r}}
	checkEncode(t, m, head(0, 0, 2, 2, 1, 2)+strings.Repeat(asked("\x00", a, in), 2)+strings.Repeat(bytesOf("\x00", a, in, 5, "abcd"), 5))
}

// The first question stands at the offset 12, and each pointer leads to where a suffix was written first.
func TestEncodeOfPointersOverAllSections(t *testing.T) {
	m := message.Msg{
		ID: 5,
		Q:  []api.Question{question("\x03www\x02ex\x00", a, in), question("\x02ex\x00", a, in), question("\x03www\x02ex\x00", 2, in)},
		An: []api.RR{
			rr("\x03www\x02ex\x00", cname, in, 5, "\x01h\x02ex\x00"),
			rr("\x01h\x02ex\x00", mx, in, 5, "\x00\x0a\x01m\x01h\x02ex\x00"),
		},
		Ns: []api.RR{rr("\x02ex\x00", soa, in, 5, "\x01m\x01h\x02ex\x00\x01r\x02ex\x00"+numbers)},
		Ad: []api.RR{rr("\x01r\x02ex\x00", srv, in, 5, "ABCDEF\x01s\x02ex\x00"), rr("\x01s\x02ex\x00", ns, none, 5, "\x01r\x02ex\x00")},
	}
	checkEncode(t, m, head(5, 0, 3, 2, 1, 2)+
		asked("\x03www\x02ex\x00", a, in)+ // 12, ex at 16
		asked(pointer(16), a, in)+ // 24
		asked(pointer(12), 2, in)+ // 30
		bytesOf(pointer(12), cname, in, 5, "\x01h"+pointer(16))+ // 36, its data at 48
		bytesOf(pointer(48), mx, in, 5, "\x00\x0a\x01m"+pointer(48))+ // 52, its name at 66
		bytesOf(pointer(16), soa, in, 5, pointer(66)+"\x01r"+pointer(16)+numbers)+ // 70, its second name at 84
		bytesOf(pointer(84), srv, in, 5, "ABCDEF\x01s\x02ex\x00")+ // 108, its name at 126
		bytesOf(pointer(126), ns, none, 5, pointer(84)))
}

func TestEncodeOfNamesWithoutPointers(t *testing.T) {
	m := message.Msg{
		Q:  []api.Question{question("\x01a\x01b\x00", a, in), question("\x01A\x01B\x00", a, in), question("\x00", a, in)},
		An: []api.RR{rr("\x00", ns, in, 5, "\x00")},
		Ns: []api.RR{rr("\x01a\x00", ns, anyClass, 5, "\x01a\x01b\x00")},
		Ad: []api.RR{rr("\x01c\x00", srv, in, 5, "ABCDEF\x01a\x01b\x00"), rr("\x01d\x00", 99, in, 5, "\x01a\x01b\x00")},
	}
	checkEncode(t, m, head(0, 0, 3, 1, 1, 2)+
		asked("\x01a\x01b\x00", a, in)+asked("\x01A\x01B\x00", a, in)+asked("\x00", a, in)+
		bytesOf("\x00", ns, in, 5, "\x00")+
		bytesOf("\x01a\x00", ns, anyClass, 5, "\x01a\x01b\x00")+
		bytesOf("\x01c\x00", srv, in, 5, "ABCDEF\x01a\x01b\x00")+
		bytesOf("\x01d\x00", 99, in, 5, "\x01a\x01b\x00"))
}

// Behind the offsets to which pointers can lead, names are written as a whole unless they were known before.
func TestEncodeOfNamesBehindTheLimit(t *testing.T) {
	for shift := -6; shift <= 6; shift++ {
		size := limit - 12 - 11 + shift // the second record begins at the limit plus shift
		m := message.Msg{
			An: []api.RR{rr("\x00", 99, in, 5, strings.Repeat("A", size)), rr("\x01a\x00", ns, in, 5, "\x01b\x01a\x00")},
			Ns: []api.RR{rr("\x01a\x00", ns, in, 5, "\x01b\x01a\x00")},
		}
		want := head(0, 0, 0, 2, 1, 0) + bytesOf("\x00", 99, in, 5, strings.Repeat("A", size))
		if shift < 0 {
			own := pointer(limit + shift)
			want += bytesOf("\x01a\x00", ns, in, 5, "\x01b"+own) + bytesOf(own, ns, in, 5, "\x01b"+own)
		} else {
			want += strings.Repeat(bytesOf("\x01a\x00", ns, in, 5, "\x01b\x01a\x00"), 2)
		}
		checkEncode(t, m, want)
	}
}

// filler is a record of size bytes, at least 11, and its bytes.
func filler(size int) (api.RR, string) {
	data := strings.Repeat("A", size-11)
	return rr("\x00", 99, in, 5, data), bytesOf("\x00", 99, in, 5, data)
}

func TestEncodeOfMaxMessageBytesInEachSection(t *testing.T) {
	for i := range 3 {
		for size := maxMessage - 2; size <= maxMessage+2; size++ {
			m := message.Msg{}
			r, b := filler(size - 12)
			*sections(&m)[i] = []api.RR{r}
			if size <= maxMessage {
				checkEncode(t, m, head(0, 0, 0, len(m.An), len(m.Ns), len(m.Ad))+b)
			} else {
				checkRefused(t, m, api.ErrLong)
			}
		}
	}
}

func TestEncodeOfMaxMessageBytesOverAllSections(t *testing.T) {
	small, smallBytes := filler(11)
	for size := maxMessage - 2; size <= maxMessage+2; size++ {
		r, b := filler(size - 12 - 5 - 4*11)
		m := message.Msg{Q: []api.Question{question("\x00", a, in)}, An: []api.RR{small, r}, Ns: []api.RR{small, small}, Ad: []api.RR{small}}
		if size <= maxMessage {
			checkEncode(t, m, head(0, 0, 1, 2, 2, 1)+asked("\x00", a, in)+smallBytes+b+strings.Repeat(smallBytes, 3))
		} else {
			checkRefused(t, m, api.ErrLong)
		}
		m.An[1], m.Ns[1] = m.Ns[1], m.An[1]
		if size <= maxMessage {
			checkEncode(t, m, head(0, 0, 1, 2, 2, 1)+asked("\x00", a, in)+strings.Repeat(smallBytes, 3)+b+smallBytes)
		} else {
			checkRefused(t, m, api.ErrLong)
		}
	}
}

// The questions alone have 12 + 7 + 6 + 13102 * 5 = 65535 bytes.
func TestEncodeOfMaxMessageBytesOfQuestions(t *testing.T) {
	l := append([]api.Question{question("\x01a\x00", a, in), question("\x01a\x00", a, in)}, slices.Repeat([]api.Question{question("\x00", a, in)}, 13102)...)
	checkEncode(t, message.Msg{Q: l}, head(0, 0, 13104, 0, 0, 0)+asked("\x01a\x00", a, in)+asked(pointer(12), a, in)+strings.Repeat(asked("\x00", a, in), 13102))
	l[0].Name = "\x02aa\x00" // two names without a pointer have two bytes more
	checkRefused(t, message.Msg{Q: l}, api.ErrLong)
	l[1].Name = "\x02aa\x00" // one byte more than at first
	checkRefused(t, message.Msg{Q: l}, api.ErrLong)
	checkEncode(t, message.Msg{Q: l[:13103]}, head(0, 0, 13103, 0, 0, 0)+asked("\x02aa\x00", a, in)+asked(pointer(12), a, in)+strings.Repeat(asked("\x00", a, in), 13101))
	checkRefused(t, message.Msg{Q: l[:13103], An: []api.RR{rr("\x00", 99, in, 5, "")}}, api.ErrLong)
}

// It is the bytes with pointers that have to be few enough.
func TestEncodeOfManyLongNames(t *testing.T) {
	l := slices.Repeat([]api.Question{question(longest, a, in)}, 10000)
	checkEncode(t, message.Msg{Q: l}, head(0, 0, 10000, 0, 0, 0)+asked(longest, a, in)+strings.Repeat(asked(pointer(12), a, in), 9999))
	r := rr(longest, ns, in, 5, longest)
	checkEncode(t, message.Msg{Q: l[:1], Ad: slices.Repeat([]api.RR{r}, 1000)}, head(0, 0, 1, 0, 0, 1000)+asked(longest, a, in)+strings.Repeat(bytesOf(pointer(12), ns, in, 5, pointer(12)), 1000))
}

func TestEncodeOfWhatIsNotWellFormedAndTooLong(t *testing.T) {
	long := slices.Repeat([]api.RR{rr("\x00", 99, in, 5, strings.Repeat("A", 40000))}, 2)
	checkRefused(t, message.Msg{An: long}, api.ErrLong)
	checkRefused(t, message.Msg{Ns: long[:1], Ad: long[:1]}, api.ErrLong)
	for _, bad := range []message.Msg{
		{ID: 65536, An: long},
		{Op: 16, Ns: long},
		{Z: -1, Ad: long},
		{Rcode: 16, An: long, Ns: long, Ad: long},
		{Q: []api.Question{{}}, An: long},
		{An: append(long[:2:2], api.RR{}), Ad: long},
		{An: long, Ns: []api.RR{{}}},
		{An: long, Ns: long, Ad: append(long[:2:2], api.RR{})},
	} {
		checkRefused(t, bad, api.ErrArg)
	}
	q := slices.Repeat([]api.Question{question(longest[64:], a, in), question("\x00", a, in)}, 20000)
	checkRefused(t, message.Msg{Q: q}, api.ErrLong)
	q[39999].Class = 65536
	checkRefused(t, message.Msg{Q: q}, api.ErrArg)
}

// P12.2: Decode

func TestDecodeOfTheExample(t *testing.T) {
	want := message.Msg{ID: 1, RD: true, Q: []api.Question{question("\x01a\x00", a, in)}}
	checkDecode(t, "\x00\x01\x01\x00\x00\x01\x00\x00\x00\x00\x00\x00\x01\x61\x00\x00\x01\x00\x01", want)
}

func TestDecodeOfFewBytes(t *testing.T) {
	for _, b := range []string{strings.Repeat("\x00", 12), strings.Repeat("\xff", 12), head(1, 0x0100, 1, 0, 0, 0), head(65535, 65535, 0, 0, 0, 0)} {
		for size := range 12 {
			checkNoDecode(t, b[:size])
		}
	}
	checkDecode(t, strings.Repeat("\x00", 12), message.Msg{})
	checkDecode(t, head(65535, 65535, 0, 0, 0, 0), ofBits(65535, 65535))
	checkDecode(t, head(0x1234, 0x2a5c, 0, 0, 0, 0), message.Msg{ID: 0x1234, Op: 5, TC: true, Z: 5, Rcode: 12})
	checkNoDecode(t, strings.Repeat("\xff", 12))
}

// Beyond the numbers of elements there must be neither less nor more.
func TestDecodeOfEachStatedNumber(t *testing.T) {
	q, r := asked("\x00", a, in), bytesOf("\x00", a, in, 5, "abcd")
	for _, n := range [][4]int{{0, 0, 0, 0}, {1, 0, 0, 0}, {0, 1, 0, 0}, {0, 0, 1, 0}, {0, 0, 0, 1}, {1, 1, 1, 1}, {2, 3, 4, 5}, {256, 1, 1, 1}, {1, 256, 257, 258}} {
		body := strings.Repeat(q, n[0]) + strings.Repeat(r, n[1]+n[2]+n[3])
		want := message.Msg{
			ID: 9,
			Q:  slices.Repeat([]api.Question{question("\x00", a, in)}, n[0]),
			An: slices.Repeat([]api.RR{rr("\x00", a, in, 5, "abcd")}, n[1]),
			Ns: slices.Repeat([]api.RR{rr("\x00", a, in, 5, "abcd")}, n[2]),
			Ad: slices.Repeat([]api.RR{rr("\x00", a, in, 5, "abcd")}, n[3]),
		}
		checkDecode(t, head(9, 0, n[0], n[1], n[2], n[3])+body, want)
		for i := range n {
			for _, wrong := range []int{n[i] - 1, n[i] + 1, n[i] + 256, 65535} {
				if stated := n; wrong >= 0 {
					stated[i] = wrong
					checkNoDecode(t, head(9, 0, stated[0], stated[1], stated[2], stated[3])+body)
				}
			}
		}
	}
}

// What belongs to no section anymore may be read as an element of the next one.
func TestDecodeOfNumbersThatAddUpToTheSame(t *testing.T) {
	r := rr("\x00", a, in, 5, "abcd")
	body := strings.Repeat(bytesOf("\x00", a, in, 5, "abcd"), 3)
	checkDecode(t, head(9, 0, 0, 3, 0, 0)+body, message.Msg{ID: 9, An: []api.RR{r, r, r}})
	checkDecode(t, head(9, 0, 0, 0, 3, 0)+body, message.Msg{ID: 9, Ns: []api.RR{r, r, r}})
	checkDecode(t, head(9, 0, 0, 0, 0, 3)+body, message.Msg{ID: 9, Ad: []api.RR{r, r, r}})
	checkDecode(t, head(9, 0, 0, 1, 2, 0)+body, message.Msg{ID: 9, An: []api.RR{r}, Ns: []api.RR{r, r}})
	checkDecode(t, head(9, 0, 0, 2, 0, 1)+body, message.Msg{ID: 9, An: []api.RR{r, r}, Ad: []api.RR{r}})
	checkDecode(t, head(9, 0, 0, 1, 1, 1)+body, message.Msg{ID: 9, An: []api.RR{r}, Ns: []api.RR{r}, Ad: []api.RR{r}})
}

// large is a message with all kinds of elements in all sections, and its bytes.
func large() (message.Msg, string) {
	m := message.Msg{
		ID: 0x1234, QR: true, Op: 5, AA: true, RD: true, Z: 2, Rcode: 9,
		Q:  []api.Question{question("\x03www\x02ex\x00", a, in), question("\x00", 255, 255)},
		An: []api.RR{rr("\x03www\x02ex\x00", cname, in, 5, "\x01h\x02ex\x00"), rr("\x01h\x02ex\x00", a, in, 6, "abcd")},
		Ns: []api.RR{rr("\x02ex\x00", soa, in, 7, "\x01h\x02ex\x00\x01r\x02ex\x00"+numbers), rr("\x00", ns, none, 0, "")},
		Ad: []api.RR{rr("\x01s\x00", srv, in, 8, "ABCDEF\x01h\x02ex\x00"), rr("\x01t\x00", txt, in, 9, "\x03abc\x00"), rr("\x00", 255, anyClass, 0, "")},
	}
	b := head(0x1234, 0xad29, 2, 2, 2, 3) +
		asked("\x03www\x02ex\x00", a, in) + // 12, ex at 16
		asked("\x00", 255, 255) + // 24
		bytesOf(pointer(12), cname, in, 5, "\x01h"+pointer(16)) + // 29, its data at 41
		bytesOf(pointer(41), a, in, 6, "abcd") +
		bytesOf(pointer(16), soa, in, 7, pointer(41)+"\x01r"+pointer(16)+numbers) +
		bytesOf("\x00", ns, none, 0, "") +
		bytesOf("\x01s\x00", srv, in, 8, "ABCDEF\x01h\x02ex\x00") +
		bytesOf("\x01t\x00", txt, in, 9, "\x03abc\x00") +
		bytesOf("\x00", 255, anyClass, 0, "")
	return m, b
}

func TestEncodeOfALargeMessage(t *testing.T) {
	m, b := large()
	checkEncode(t, m, b)
}

func TestDecodeOfAMessageThatIsCutOff(t *testing.T) {
	m, b := large()
	checkDecode(t, b, m)
	for size := range b {
		checkNoDecode(t, b[:size])
	}
}

func TestDecodeOfAMessageThatIsFollowedByMore(t *testing.T) {
	_, b := large()
	for _, more := range []string{"\x00", "\x01", "\xff", "\x00\x00", asked("\x00", a, in), bytesOf("\x00", a, in, 5, "abcd"), strings.Repeat("\x00", 11), b, strings.Repeat("A", 65536)} {
		checkNoDecode(t, b+more)
		checkNoDecode(t, head(0, 0, 0, 0, 0, 0)+more)
		checkNoDecode(t, head(0, 0, 1, 0, 0, 0)+asked("\x00", a, in)+more)
	}
}

func TestDecodeOfAQuestionThatIsCutOff(t *testing.T) {
	for _, q := range []string{asked("\x00", a, in), asked("\x01a\x02bc\x00", 0x1234, 0x5678), asked(longest, a, in), asked(pointer(0), a, in)} {
		b := head(0, 0, 1, 0, 0, 0) + q
		if _, e := message.Decode(b); e != api.OK {
			t.Errorf("Decode(%q) = %v", b, e)
		}
		for size := 12; size < len(b); size++ {
			checkNoDecode(t, b[:size])
			checkNoDecode(t, head(0, 0, 2, 0, 0, 0)+asked("\x00", a, in)+b[12:size])
		}
	}
}

func TestDecodeOfAQuestionsNameThatIsNotValid(t *testing.T) {
	for _, n := range []string{
		"\x01",
		"\x01a",
		"\x40" + strings.Repeat("a", 64) + "\x00",
		"\x80",
		"\xbf\x00",
		"\xc0",
		pointer(12),
		pointer(13),
		pointer(14),
		pointer(16383),
		"\x01a" + pointer(12),
		"\x01a" + pointer(14),
		"\x01a" + pointer(16),
		tooLong,
		strings.Repeat("\x01a", 128) + "\x00",
	} {
		checkNoDecode(t, head(0, 0, 1, 0, 0, 0)+asked(n, a, in))
		checkNoDecode(t, head(0, 0, 1, 1, 0, 0)+asked(n, a, in)+bytesOf("\x00", a, in, 5, "abcd"))
		checkNoDecode(t, head(0, 0, 2, 0, 0, 0)+asked(n, a, in)+asked("\x00", a, in))
	}
	checkDecode(t, head(0, 0, 1, 0, 0, 0)+asked(longest, a, in), message.Msg{Q: []api.Question{question(longest, a, in)}})
	checkNoDecode(t, head(0, 0, 2, 0, 0, 0)+asked(longest, a, in)+asked("\x01a"+pointer(12), a, in))
}

func TestDecodeOfEachNumberOfAQuestion(t *testing.T) {
	for n := range 65536 {
		checkDecode(t, head(0, 0, 1, 0, 0, 0)+asked("\x00", n, 65535-n), message.Msg{Q: []api.Question{question("\x00", n, 65535-n)}})
	}
}

// Pointers may lead to everything before, written by this packer or not.
func TestDecodeOfPointers(t *testing.T) {
	want := message.Msg{Q: []api.Question{question("\x01a\x01b\x00", a, in), question("\x01b\x00", a, in), question("\x00", a, in), question("\x01c\x01a\x01b\x00", a, in)}}
	checkDecode(t, head(0, 0, 4, 0, 0, 0)+asked("\x01a\x01b\x00", a, in)+asked(pointer(14), a, in)+asked(pointer(16), a, in)+asked("\x01c"+pointer(12), a, in), want)
	checkDecode(t, head(0, 0, 4, 0, 0, 0)+asked("\x01a\x01b\x00", a, in)+asked("\x01b\x00", a, in)+asked("\x00", a, in)+asked("\x01c\x01a"+pointer(14), a, in), want)
	want = message.Msg{
		Q:  []api.Question{question("\x01a\x00", a, in)},
		An: []api.RR{rr("\x01a\x00", ns, in, 5, "\x01n\x01a\x00")},
		Ns: []api.RR{rr("\x01n\x01a\x00", ns, in, 5, "\x01n\x01a\x00")},
		Ad: []api.RR{rr("\x01n\x01a\x00", mx, none, 5, "AB\x01a\x00")},
	}
	checkDecode(t, head(0, 0, 1, 1, 1, 1)+asked("\x01a\x00", a, in)+
		bytesOf(pointer(12), ns, in, 5, "\x01n"+pointer(12))+ // 19, its data at 31
		bytesOf(pointer(31), ns, in, 5, pointer(31))+ // 35, its data at 47
		bytesOf(pointer(47), mx, none, 5, "AB"+pointer(19)), want)
}

// The ID's two bytes are a label here, and the zero byte of the flags ends a name.
func TestDecodeOfPointersIntoTheHead(t *testing.T) {
	b := "\x01a\x00\x00\x00\x02\x00\x00\x00\x00\x00\x00" + asked(pointer(0), a, in) + asked("\x01b"+pointer(11), a, in)
	checkDecode(t, b, message.Msg{ID: 0x0161, Q: []api.Question{question("\x01a\x00", a, in), question("\x01b\x00", a, in)}})
	b = "\x01a\x00\x00\x00\x00\x00\x01\x00\x00\x00\x00" + bytesOf(pointer(0), ns, in, 5, pointer(0))
	checkDecode(t, b, message.Msg{ID: 0x0161, An: []api.RR{rr("\x01a\x00", ns, in, 5, "\x01a\x00")}})
}

func TestDecodeOfARecordThatIsNotValid(t *testing.T) {
	good := bytesOf("\x00", a, in, 5, "abcd")
	for _, bad := range []string{
		bytesOf("\x00", a, in, 5, ""),
		bytesOf("\x00", a, in, 5, "abc"),
		bytesOf("\x00", a, in, 5, "abcde"),
		bytesOf("\x00", a, none, 5, "abc"),
		bytesOf("\x00", ns, in, 5, "\x00\x00"),
		bytesOf("\x00", ns, in, 5, pointer(16383)),
		bytesOf("\x00", srv, in, 5, "ABCDEF"+pointer(11)),
		bytesOf("\x00", txt, in, 5, ""),
		bytesOf("\x40", a, in, 5, "abcd"),
		bytesOf(pointer(16383), a, in, 5, "abcd"),
		bytesOf(tooLong, a, in, 5, "abcd"),
		"\x00" + two(a) + two(in) + four(5) + two(5) + "abcd",
		"\x00" + two(99) + two(in) + four(5) + two(65535) + "abcd",
		"\x00" + two(99) + two(anyClass) + four(5) + two(65535) + "abcd",
	} {
		for i := range 3 {
			for _, l := range [][]string{{bad}, {bad, good, good}, {good, bad, good}, {good, good, bad}} {
				n := []int{0, 0, 0}
				n[i] = len(l)
				checkNoDecode(t, head(0, 0, 0, n[0], n[1], n[2])+strings.Join(l, ""))
				before, after := strings.Repeat(good, i), strings.Repeat(good, 2-i)
				n = []int{1, 1, 1}
				n[i] = len(l)
				checkNoDecode(t, head(0, 0, 0, n[0], n[1], n[2])+before+strings.Join(l, "")+after)
			}
		}
	}
}

func TestDecodeOfATTLThatIsTooGreat(t *testing.T) {
	for _, ttl := range []string{"\x80\x00\x00\x00", "\x80\x00\x00\x01", "\xff\xff\xff\xff"} {
		r := "\x00" + two(a) + two(in) + ttl + two(4) + "abcd"
		l := []api.RR{rr("\x00", a, in, 0, "abcd")}
		checkDecode(t, head(0, 0, 0, 1, 1, 1)+r+r+r, message.Msg{An: l, Ns: l, Ad: l})
	}
}

// A message says how many elements it has long before they are missing.
func TestDecodeOfGreatNumbersWithFewBytes(t *testing.T) {
	for range 10000 {
		for _, n := range [][4]int{{65535, 0, 0, 0}, {0, 65535, 0, 0}, {0, 0, 65535, 0}, {0, 0, 0, 65535}, {65535, 65535, 65535, 65535}} {
			b := head(0, 0, n[0], n[1], n[2], n[3])
			checkNoDecode(t, b)
			checkNoDecode(t, b+asked("\x00", a, in))
			checkNoDecode(t, b+bytesOf("\x00", a, in, 5, "abcd"))
		}
	}
}

// Decode says nothing of a length beyond which there is no message.
func TestDecodeOfMoreThanMaxMessageBytes(t *testing.T) {
	r, b := filler(40000)
	checkDecode(t, head(3, 0, 0, 1, 0, 1)+b+b, message.Msg{ID: 3, An: []api.RR{r}, Ad: []api.RR{r}})
	q := slices.Repeat([]api.Question{question("\x00", a, in)}, 65535)
	l := slices.Repeat([]api.RR{rr("\x00", 99, in, 5, "")}, 65535)
	all := head(3, 0, 65535, 65535, 65535, 65535) + strings.Repeat(asked("\x00", a, in), 65535) + strings.Repeat(bytesOf("\x00", 99, in, 5, ""), 3*65535)
	checkDecode(t, all, message.Msg{ID: 3, Q: q, An: l, Ns: l, Ad: l})
	checkNoDecode(t, all+"\x00")
	checkNoDecode(t, all[:len(all)-1])
}

// P12.2: Head

func TestHeadOfFewBytes(t *testing.T) {
	for _, b := range []string{strings.Repeat("\x00", 12), strings.Repeat("\xff", 12), head(1, 0x0100, 0, 0, 0, 0)} {
		for size := range 12 {
			if m, e := message.Head(b[:size]); !same(m, message.Msg{}) || e != api.ErrForm {
				t.Errorf("Head(%q) = %s, %v", b[:size], told(m), e)
			}
		}
	}
	checkHead(t, strings.Repeat("\x00", 12), message.Msg{})
	checkHead(t, head(1, 0x0100, 0, 0, 0, 0), message.Msg{ID: 1, RD: true})
	checkHead(t, strings.Repeat("\xff", 12), message.Msg{ID: 65535, QR: true, Op: 15, AA: true, TC: true, RD: true, RA: true, Z: 7, Rcode: 15})
}

func TestHeadOfEachValueOfTheFlags(t *testing.T) {
	for n := range 65536 {
		checkHead(t, head(65535-n, n, 0, 0, 0, 0), ofBits(65535-n, n))
	}
}

// Only the first four bytes say something to Head.
func TestHeadOfWhatIsNotDecoded(t *testing.T) {
	want := message.Msg{ID: 0x0102, QR: true, Op: 5, AA: true, RD: true, Z: 5, Rcode: 3}
	for _, n := range [][4]int{{0, 0, 0, 0}, {1, 0, 0, 0}, {0, 1, 0, 0}, {0, 0, 1, 0}, {0, 0, 0, 1}, {1, 1, 1, 1}, {65535, 65535, 65535, 65535}} {
		b := head(0x0102, 0xad53, n[0], n[1], n[2], n[3])
		for _, rest := range []string{"", "\x00", "\xff", "\xc0\x0c", asked("\x00", a, in) + "\xff", bytesOf("\x00", a, in, 5, "abc"), strings.Repeat("\xff", 100000)} {
			checkHead(t, b+rest, want)
			if n != [4]int{} || rest != "" {
				checkNoDecode(t, b+rest)
			}
		}
	}
	m, b := large()
	checkHead(t, b, message.Msg{ID: m.ID, QR: m.QR, Op: m.Op, AA: m.AA, TC: m.TC, RD: m.RD, RA: m.RA, Z: m.Z, Rcode: m.Rcode})
}

// P12.2: Reply

func TestReplyOfOrdinaryMessages(t *testing.T) {
	q := []api.Question{question("\x01a\x00", a, in)}
	checkReply(t, message.Msg{ID: 258, RD: true, Q: q}, api.NoError, message.Msg{ID: 258, QR: true, RD: true, Q: q})
	checkReply(t, message.Msg{ID: 258, Op: 5, Q: q}, api.Refused, message.Msg{ID: 258, QR: true, Op: 5, Rcode: api.Refused, Q: q})
	checkReply(t, message.Msg{}, api.FormErr, message.Msg{QR: true, Rcode: api.FormErr})
	checkReply(t, message.Msg{}, api.NoError, message.Msg{QR: true})
	m, _ := large()
	checkReply(t, m, api.NXDomain, message.Msg{ID: 0x1234, QR: true, Op: 5, RD: true, Rcode: api.NXDomain, Q: m.Q})
}

func TestReplyOfEachValueOfTheFlags(t *testing.T) {
	l := []api.RR{rr("\x00", a, in, 5, "abcd")}
	for n := range 65536 {
		m := ofBits(65535-n, n)
		checkReply(t, m, api.ServFail, message.Msg{ID: m.ID, QR: true, Op: m.Op, RD: m.RD, Rcode: api.ServFail})
		m.An, m.Ns, m.Ad = l, l, l
		checkReply(t, m, api.ServFail, message.Msg{ID: m.ID, QR: true, Op: m.Op, RD: m.RD, Rcode: api.ServFail})
	}
}

func TestReplyWithEachCode(t *testing.T) {
	q := []api.Question{question("\x01a\x00", a, in)}
	for code := range 16 {
		checkReply(t, message.Msg{ID: 1, Rcode: api.Rcode(15 - code), Q: q}, api.Rcode(code), message.Msg{ID: 1, QR: true, Rcode: api.Rcode(code), Q: q})
	}
	for _, code := range outside(15) {
		checkReply(t, message.Msg{ID: 1, Rcode: 7, Q: q}, api.Rcode(code), message.Msg{ID: 1, QR: true, Rcode: api.Rcode(code), Q: q})
	}
}

// Reply takes over what it is given, well formed or not.
func TestReplyOfWhatIsNotWellFormed(t *testing.T) {
	q := []api.Question{{}, question("no name", -1, 65536), question("\x01a\x00", a, in)}
	for _, n := range outside(65535) {
		checkReply(t, message.Msg{ID: n, Op: n, Z: n, Rcode: api.Rcode(n), Q: q, An: []api.RR{{}}}, 3, message.Msg{ID: n, QR: true, Op: n, Rcode: 3, Q: q})
	}
	many := slices.Repeat(q, 22000)
	checkReply(t, message.Msg{Q: many}, 3, message.Msg{QR: true, Rcode: 3, Q: many})
}

func TestReplyOfEachNumberOfQuestions(t *testing.T) {
	all := []api.Question{question("\x01a\x00", a, in), question("\x01a\x00", a, in), question("\x01B\x00", 7, 9), question("\x00", 255, 255)}
	for size := range len(all) + 1 {
		checkReply(t, message.Msg{Q: all[:size]}, 0, message.Msg{QR: true, Q: all[:size]})
	}
	checkReply(t, message.Msg{Q: []api.Question{}}, 0, message.Msg{QR: true})
}

func TestReplyIsWellFormed(t *testing.T) {
	m, _ := large()
	want := head(0x1234, 0xa905, 2, 0, 0, 0) + asked("\x03www\x02ex\x00", a, in) + asked("\x00", 255, 255)
	checkEncode(t, message.Reply(m, api.Refused), want)
	checkRefused(t, message.Reply(m, 16), api.ErrArg)
}

// P12.3

// every calls f with each string of these bytes that has at most size bytes.
func every(alphabet string, size int, f func(string)) {
	all := []string{""}
	for len(all[0]) <= size {
		var longer []string
		for _, s := range all {
			f(s)
			for i := range len(alphabet) {
				longer = append(longer, s+alphabet[i:i+1])
			}
		}
		all = longer
	}
}

func TestDecodeOfEveryShortBody(t *testing.T) {
	for _, n := range [][4]int{{1, 0, 0, 0}, {2, 0, 0, 0}, {0, 1, 0, 0}, {1, 0, 1, 0}} {
		every("\x00\x01\xc0\x0c", 8, func(body string) { checkWithModel(t, head(0x0100, 0, n[0], n[1], n[2], n[3])+body) })
	}
}

func randomName(r *rand.Rand) string {
	parts := []string{"a", "A", "b", "ab", "\x00", "\x01a", "\xc0\x00", "\xff"}
	var labels []string
	for range r.Intn(5) {
		labels = append(labels, parts[r.Intn(1+r.Intn(len(parts)))])
	}
	return wire(labels...)
}

func randomData(r *rand.Rand, typ int) string {
	switch typ {
	case a:
		return "abcd"
	case aaaa:
		return "0123456789ABCDEF"
	case ns, cname, ptr:
		return randomName(r)
	case mx:
		return "AB" + randomName(r)
	case soa:
		return randomName(r) + randomName(r) + numbers
	case txt:
		return "\x02Hi" + randomName(r)
	case srv:
		return "ABCDEF" + randomName(r)
	}
	return randomName(r)
}

func randomRecord(r *rand.Rand) api.RR {
	typ := []int{a, ns, cname, soa, ptr, mx, txt, aaaa, srv, 0, 99, 255, 65535}[r.Intn(13)]
	class := []int{in, in, in, in, none, none, anyClass, 0, 65535}[r.Intn(9)]
	x := rr(randomName(r), typ, class, []int{0, 5, 65536, maxTTL}[r.Intn(4)], randomData(r, typ))
	if class != in && r.Intn(2) == 0 {
		x.Data = ""
	}
	return x
}

// randomMessage is well formed, and sometimes so long that not all its names become known, or too long.
func randomMessage(r *rand.Rand) message.Msg {
	m := ofBits(r.Intn(65536), r.Intn(65536))
	for range r.Intn(4) {
		m.Q = append(m.Q, question(randomName(r), r.Intn(65536), r.Intn(65536)))
	}
	for _, section := range sections(&m) {
		for range r.Intn(6) {
			x := randomRecord(r)
			if r.Intn(30) == 0 {
				x = rr(randomName(r), 99, in, 5, strings.Repeat("A", []int{16250, 16300, 16350, 40000}[r.Intn(4)]))
			}
			*section = append(*section, x)
		}
	}
	return m
}

func TestRandomMessages(t *testing.T) {
	r := rand.New(rand.NewSource(121))
	for range 10000 {
		checkEncoded(t, randomMessage(r))
	}
}

// spoil breaks one thing of m, or nothing.
func spoil(r *rand.Rand, m *message.Msg) {
	n := []int{-1, 15, 16, 65535, 65536, math.MaxInt}[r.Intn(6)]
	switch r.Intn(7) {
	case 0:
		m.ID = n
	case 1:
		m.Op = n
	case 2:
		m.Z = n
	case 3:
		m.Rcode = api.Rcode(n)
	case 4:
		m.Q = append(m.Q, question(wrongNames[r.Intn(len(wrongNames))], a, in))
	case 5:
		m.Q = append(m.Q, question("\x00", n, n))
	default:
		section := sections(m)[r.Intn(3)]
		*section = append(*section, wrongRecords[r.Intn(len(wrongRecords))])
	}
}

func TestRandomMessagesThatAreMostlyNotWellFormed(t *testing.T) {
	r := rand.New(rand.NewSource(122))
	for range 5000 {
		m := randomMessage(r)
		spoil(r, &m)
		checkEncoded(t, m)
	}
}

// Bytes of messages are changed here and there.
func TestDecodeOfRandomBytes(t *testing.T) {
	r := rand.New(rand.NewSource(123))
	for range 10000 {
		m := randomMessage(r)
		b, e := message.Encode(m)
		if e != api.OK || len(b) > 1000 {
			continue
		}
		c := []byte(b)
		for range 1 + r.Intn(3) {
			switch i := r.Intn(len(c)); r.Intn(5) {
			case 0:
				c = c[:i]
			case 1:
				c = append(c, byte(r.Intn(256)))
			case 2:
				c[i] = byte(r.Intn(256))
			default:
				c[i] += byte(r.Intn(3)) - 1
			}
			if len(c) == 0 {
				c = append(c, 0)
			}
		}
		checkWithModel(t, string(c))
	}
	for range 10000 {
		c := make([]byte, r.Intn(60))
		for i := range c {
			c[i] = []byte{0, 0, 0, 1, 2, 12, 0xc0, byte(r.Intn(256))}[r.Intn(8)]
		}
		checkWithModel(t, string(c))
	}
}

// R5, R7

// spare are lists with elements behind their ends.
func spare(m message.Msg) message.Msg {
	q := append(m.Q[:len(m.Q):len(m.Q)], question("\x01s\x00", 1, 2))
	m.Q = q[:len(q)-1]
	for _, section := range sections(&m) {
		l := append((*section)[:len(*section):len(*section)], rr("\x01s\x00", 1, 2, 3, "4"))
		*section = l[:len(l)-1]
	}
	return m
}

func checkSpare(t *testing.T, m message.Msg) {
	t.Helper()
	if q := m.Q[:len(m.Q)+1]; q[len(q)-1] != question("\x01s\x00", 1, 2) {
		t.Errorf("behind the questions stands %v", q[len(q)-1])
	}
	for _, section := range sections(&m) {
		if l := (*section)[:len(*section)+1]; l[len(l)-1] != rr("\x01s\x00", 1, 2, 3, "4") {
			t.Errorf("behind a section stands %v", l[len(l)-1])
		}
	}
}

func TestSpareCapacityDoesNotChange(t *testing.T) {
	full, b := large()
	for _, whole := range []message.Msg{full, {}} {
		m := spare(whole)
		message.Formed(m)
		message.Encode(m)
		reply := message.Reply(m, 3)
		checkSpare(t, m)
		reply.Q = append(reply.Q, question("\x01r\x00", 3, 4))
		reply.An = append(reply.An, rr("\x01r\x00", 3, 4, 5, "6"))
		checkSpare(t, m)
		if !same(m, whole) {
			t.Errorf("the message is %s now", told(m))
		}
	}
	checkEncode(t, spare(full), b)
}

func TestAReplySharesNoQuestions(t *testing.T) {
	m, _ := large()
	before := copyOf(m)
	first, second := message.Reply(m, 3), message.Reply(m, 3)
	first.Q[0] = question("\x01r\x00", 3, 4)
	if !same(m, before) || !slices.Equal(second.Q, before.Q) {
		t.Errorf("the message is %s, the other reply %s", told(m), told(second))
	}
	m.Q[1] = question("\x01r\x00", 3, 4)
	if !slices.Equal(second.Q, before.Q) {
		t.Errorf("the other reply is %s", told(second))
	}
}

func TestDecodedListsAreIndependent(t *testing.T) {
	want, b := large()
	for i := range 3 {
		m, _ := message.Decode(b)
		other, _ := message.Decode(b)
		l := sections(&m)[i]
		(*l)[0] = rr("\x01r\x00", 3, 4, 5, "6")
		*l = append(*l, (*l)[0], (*l)[0], (*l)[0], (*l)[0])
		m.Q[0] = question("\x01r\x00", 3, 4)
		m.Q = append(m.Q, m.Q[0], m.Q[0], m.Q[0])
		*l, m.Q = *sections(&want)[i], want.Q
		if !same(m, want) || !same(other, want) {
			t.Errorf("the other sections are %s, the other message %s", told(m), told(other))
		}
	}
}

func TestCallsDoNotDependOnEarlierOnes(t *testing.T) {
	m, b := large()
	for range 3 {
		checkEncode(t, m, b)
		checkNoDecode(t, b+"\x00")
		checkEncode(t, message.Msg{}, strings.Repeat("\x00", 12))
		checkRefused(t, message.Msg{ID: -1}, api.ErrArg)
	}
}
