package record_test

import (
	"fmt"
	"math"
	"math/rand"
	"strings"
	"testing"

	"beadroll/api"
	"beadroll/pack"
	"beadroll/record"
)

// limit is the first offset to which no pointer can lead.
const limit = 0x4000

// longest is a name of MaxName bytes; tooLong has one byte more, and is otherwise a name.
var (
	longest = wire(strings.Repeat("a", 63), strings.Repeat("B", 63), strings.Repeat("c", 63), strings.Repeat("d", 61))
	tooLong = wire(strings.Repeat("a", 63), strings.Repeat("B", 63), strings.Repeat("c", 63), strings.Repeat("d", 62))
)

// numbers are those of an SOA, all of bytes that look like capital letters.
const numbers = "ABCDEFGHIJKLMNOPQRST"

var (
	// listed are the types of layer 10's list, and unlisted are others.
	listed   = []int{a, ns, cname, soa, ptr, mx, txt, aaaa, srv}
	unlisted = []int{0, 3, 4, 99, 250, 251, 252, 255, 256, 256 + ns, 65535}
	// named are the types whose data has a name that may be a pointer.
	named = []int{ns, cname, soa, ptr, mx}
	// plain are classes with arbitrary data; some of them have IN or NONE as their lowest byte.
	plain   = []int{0, 2, 3, 4, 253, anyClass, 256, 256 + in, 256 + none, 65535}
	classes = append([]int{in, none}, plain...)
)

// wrongNames are strings that are not names.
var wrongNames = []string{
	"",
	"\x01",
	"\x01a",
	"\x00\x00",
	"\x00\x01a\x00",
	"\x01a\x00\x00",
	"\x01a\x00\x01b\x00",
	"\x01a\x02b\x00",
	"\x03ab\x00",
	"a.",
	"\xff",
	"\xc0\x00",
	"\x01a\xc0\x00",
	"\x40" + strings.Repeat("a", 64) + "\x00",
	strings.Repeat("\x01a", 128) + "\x00",
	tooLong,
}

func wire(labels ...string) string {
	n := ""
	for _, l := range labels {
		n += string([]byte{byte(len(l))}) + l
	}
	return n + "\x00"
}

// pointer is the two bytes of a pointer to an offset.
func pointer(to int) string {
	return two(0xc000 + to)
}

func pad(size int) string {
	return strings.Repeat("\xee", size)
}

// valid are data that is valid for a type.
func valid(typ int) []string {
	switch typ {
	case a:
		return []string{"\x0a\x00\x00\x01", "ABCD", "\x01A\x00\x00"}
	case aaaa:
		return []string{"0123456789ABCDEF", strings.Repeat("\xff", 16)}
	case ns, cname, ptr:
		return []string{"\x00", "\x01a\x00", "\x02nS\x01A\x00", longest}
	case mx:
		return []string{"\x00\x0a\x00", "AB\x02mX\x01A\x00", "\x00\x00" + longest}
	case soa:
		return []string{"\x00\x00" + numbers, "\x01M\x00\x01R\x01A\x00" + numbers, longest + longest + strings.Repeat("\xff", 20)}
	case txt:
		return []string{"\x00", "\x02Hi", "\x01A\x00", "\x01A\x02BC\x00"}
	case srv:
		return []string{"\x00\x00\x00\x00\x00\x00\x00", "ABCDEF\x02sV\x01A\x00"}
	}
	return []string{"", "\x00", "A", "\x01A\x00", "\xc0\x00"}
}

// invalid are data that is not valid for a type of the list, and not empty.
func invalid(typ int) []string {
	switch typ {
	case a:
		return []string{"A", "ABC", "ABCDE", "\x01A\x00"}
	case aaaa:
		return []string{"A", "0123456789ABCDE", "0123456789ABCDEFG", "ABCD"}
	case ns, cname, ptr:
		return []string{"\x01", "\x01A", "\x00\x00", "\x01A\x00\x00", "\x01A\xc0\x00", "\xc0\x00", tooLong}
	case mx:
		return []string{"\x01A", "\x01A\x00\x00\x00", "AB\x01A", "A\x01A\x00", "AB\xc0\x00", "AB\x01A\xc0\x00", "AB" + tooLong}
	case soa:
		return []string{"\x00", "\x01A\x00\x01B\x00" + numbers[1:], "\x01A\x00\x01B\x00" + numbers + "Z", "\x01A\x00" + numbers, "\x01A\x00\xc0\x00" + numbers}
	case txt:
		return []string{"\x01", "\x02A", "\x01AB", "\x01A\x01"}
	}
	return []string{"A", "ABCDEF", "ABCDE\x00", "ABCDEF\x01A", "ABCDEF\x00\x00", "ABCDEF\xc0\x00", "ABCDEF\x01A\xc0\x00"}
}

// texts are pieces of size bytes together, each as long as it can be.
func texts(size int) string {
	s := ""
	for size > 0 {
		n := min(size, 256)
		s += string([]byte{byte(n - 1)}) + strings.Repeat("T", n-1)
		size -= n
	}
	return s
}

// brief is s for a message, without most of a long text.
func brief(s string) string {
	if len(s) > 60 {
		return fmt.Sprintf("%q.. (%d bytes)", s[:60], len(s))
	}
	return fmt.Sprintf("%q", s)
}

func told(r api.RR) string {
	return fmt.Sprintf("{%s type %d class %d TTL %d %s}", brief(r.Name), r.Type, r.Class, r.TTL, brief(r.Data))
}

func rr(n string, typ, class, ttl int, data string) api.RR {
	return api.RR{Name: n, Type: typ, Class: class, TTL: ttl, Data: data}
}

// bytesOf are the bytes of a record in a message whose name and data stand there like this.
func bytesOf(n string, typ, class, ttl int, data string) string {
	return n + two(typ) + two(class) + four(ttl) + two(len(data)) + data
}

func checkRight(t *testing.T, r api.RR, want bool) {
	t.Helper()
	if got := record.Right(r); got != want {
		t.Errorf("Right(%s) = %v", told(r), got)
	}
}

func checkSaid(t *testing.T, r api.RR, want string) {
	t.Helper()
	if got := record.Said(r); got != want {
		t.Errorf("Said(%s) = %s; want %s", told(r), brief(got), brief(want))
	}
}

// checkOrder checks both directions.
func checkOrder(t *testing.T, r, s api.RR, want int, wantOne bool) {
	t.Helper()
	if got, back := record.Compare(r, s), record.Compare(s, r); got != want || back != -want {
		t.Errorf("Compare(%s, %s) = %d, and back %d; want %d", told(r), told(s), got, back, want)
	}
	if got, back := record.One(r, s), record.One(s, r); got != wantOne || back != wantOne {
		t.Errorf("One(%s, %s) = %v, and back %v", told(r), told(s), got, back)
	}
}

func checkRead(t *testing.T, msg string, at int, want api.RR, wantNext int, wantE api.Errno) {
	t.Helper()
	if r, next, e := record.Read(msg, at); r != want || next != wantNext || e != wantE {
		t.Errorf("Read(%s, %d) = %s, %d, %v; want %s, %d, %v", brief(msg), at, told(r), next, e, told(want), wantNext, wantE)
	}
}

func checkNone(t *testing.T, msg string, at int) {
	t.Helper()
	checkRead(t, msg, at, api.RR{}, 0, api.ErrForm)
}

// checkRecord reads the record at an offset, which ends with the message, and once more with bytes after it.
func checkRecord(t *testing.T, msg string, at int, want api.RR) {
	t.Helper()
	checkRead(t, msg, at, want, len(msg), api.OK)
	checkRead(t, msg+"\x01z\x00", at, want, len(msg), api.OK)
}

// checkEverywhere compares Read at each offset, and next to them, with the model.
func checkEverywhere(t *testing.T, msg string) {
	t.Helper()
	for at := -1; at <= len(msg)+1; at++ {
		r, next, e := modelRead(msg, at)
		checkRead(t, msg, at, r, next, e)
	}
}

func checkBytes(t *testing.T, p *pack.Packer, want string) {
	t.Helper()
	b := p.Bytes()
	if b == want && p.Len() == len(want) {
		return
	}
	i := 0
	for i < len(b) && i < len(want) && b[i] == want[i] {
		i++
	}
	t.Errorf("from the offset %d on, the message of %d bytes has %s; want %s", i, p.Len(), brief(b[i:]), brief(want[i:]))
}

// checkWrite writes a record, and checks what it appended and that it is read back.
func checkWrite(t *testing.T, p *pack.Packer, r api.RR, appended string) {
	t.Helper()
	before := p.Bytes()
	if e := record.Write(p, r); e != api.OK {
		t.Errorf("Write(%s) = %v", told(r), e)
	}
	checkBytes(t, p, before+appended)
	checkRecord(t, p.Bytes(), len(before), r)
}

func checkNoWrite(t *testing.T, p *pack.Packer, r api.RR) {
	t.Helper()
	before := p.Bytes()
	if e := record.Write(p, r); e != api.ErrForm {
		t.Errorf("Write(%s) = %v", told(r), e)
	}
	checkBytes(t, p, before)
}

func checkName(t *testing.T, p *pack.Packer, n, appended string) {
	t.Helper()
	before := p.Bytes()
	if e := p.Name(n, true); e != api.OK {
		t.Errorf("Name(%s) = %v", brief(n), e)
	}
	checkBytes(t, p, before+appended)
}

// P11.1

func TestRightOfOrdinaryRecords(t *testing.T) {
	checkRight(t, rr("\x01a\x00", 1, 1, 5, "\x0a\x00\x00\x01"), true)
	checkRight(t, rr("\x03wWw\x01a\x00", 28, 1, 3600, "\x20\x01\x0d\xb8\x00\x00\x00\x00\x00\x00\x00\x00\x00\x00\x00\x01"), true)
	checkRight(t, rr("\x00", 2, 1, 0, "\x02ns\x00"), true)
	checkRight(t, rr("\x01a\x00", 15, 254, 0, "\x00\x0a\x01a\x00"), true)
	checkRight(t, rr("\x01a\x00", 15, 254, 0, ""), true)
	checkRight(t, rr("\x01a\x00", 255, 255, 0, ""), true)
	checkRight(t, rr("\x01a\x00", 1, 1, 5, "\x0a\x00\x00"), false)
	checkRight(t, rr("\x01a\x00", 1, 1, 5, ""), false)
	checkRight(t, rr("\x01a\x00", 1, 254, 5, "\x0a\x00\x00"), false)
	checkRight(t, api.RR{}, false)
	checkRight(t, api.RR{Name: "\x00"}, true)
}

func TestRightOfEachName(t *testing.T) {
	for _, class := range classes {
		for _, n := range []string{"\x00", "\x01a\x00", "\x01*\x00", "\x03wWw\x02\x00.\x01\xff\x00", longest, strings.Repeat("\x01a", 127) + "\x00"} {
			checkRight(t, rr(n, a, class, 5, "abcd"), true)
		}
		for _, n := range wrongNames {
			checkRight(t, rr(n, a, class, 5, "abcd"), false)
			checkRight(t, rr(n, 99, class, 0, ""), false)
		}
	}
}

// bad are numbers that neither a type nor a class nor a TTL can be.
var bad = []int{-1, -2, -255, -256, -65535, -65536, maxTTL + 1, maxTTL + 2, -maxTTL, -maxTTL - 1, 1<<32 - 1, 1 << 32, 1<<32 + 1, -1 << 32, 1<<48 + 1, math.MinInt, math.MinInt + 1, math.MaxInt - 1, math.MaxInt}

func TestRightOfEachNumber(t *testing.T) {
	good := []int{0, 1, 2, 254, 255, 256, 65534, 65535}
	long := []int{65536, 65536 + 1, 65536 + 254, 1<<17 - 1, maxTTL - 1, maxTTL}
	for _, n := range good {
		checkRight(t, rr("\x01a\x00", n, 3, 0, "abcd"), true)
		checkRight(t, rr("\x01a\x00", 99, n, 0, "abcd"), true)
		checkRight(t, rr("\x01a\x00", 99, in, n, "abcd"), true)
	}
	for _, n := range append(long, bad...) {
		for _, class := range classes {
			checkRight(t, rr("\x01a\x00", n, class, 0, "abcd"), false)
			checkRight(t, rr("\x01a\x00", n, class, 0, ""), false)
		}
		checkRight(t, rr("\x01a\x00", 99, n, 0, "abcd"), false)
		checkRight(t, rr("\x01a\x00", a, n, 0, "abcd"), false)
		checkRight(t, rr("\x01a\x00", n, n, 0, "abcd"), false)
	}
	for _, class := range classes {
		for _, n := range long {
			checkRight(t, rr("\x01a\x00", a, class, n, "abcd"), true)
		}
		for _, n := range bad {
			checkRight(t, rr("\x01a\x00", a, class, n, "abcd"), false)
		}
	}
}

func TestRightOfMaxDataBytes(t *testing.T) {
	for _, size := range []int{maxData - 1, maxData, maxData + 1, maxData + 2, 65536 + 4, 2 * maxData} {
		fits := size <= maxData
		same, pieces := strings.Repeat("A", size), texts(size)
		for _, class := range classes {
			for _, typ := range unlisted {
				checkRight(t, rr("\x01a\x00", typ, class, 5, same), fits)
			}
			checkRight(t, rr("\x01a\x00", txt, class, 5, pieces), fits)
		}
		for _, class := range plain {
			for _, typ := range listed {
				checkRight(t, rr("\x01a\x00", typ, class, 5, same), fits)
			}
		}
	}
}

func TestRightOfDataOfEachTypeAndClass(t *testing.T) {
	for _, class := range classes {
		for _, typ := range append(unlisted, listed...) {
			for _, data := range valid(typ) {
				checkRight(t, rr("\x01a\x00", typ, class, 5, data), true)
			}
		}
		for _, typ := range listed {
			for _, data := range invalid(typ) {
				checkRight(t, rr("\x01a\x00", typ, class, 5, data), class != in && class != none)
			}
			checkRight(t, rr("\x01a\x00", typ, class, 5, ""), class != in)
		}
	}
}

// caps are data with capital letters in its names and elsewhere, and its folded form.
var caps = []struct {
	typ          int
	data, folded string
}{
	{a, "ABCD", "ABCD"},
	{a, "\x01A\x00\x00", "\x01A\x00\x00"},
	{ns, "\x02NS\x01A\x00", "\x02ns\x01a\x00"},
	{cname, "\x02NS\x01A\x00", "\x02ns\x01a\x00"},
	{soa, "\x01M\x01A\x00\x01R\x00" + numbers, "\x01m\x01a\x00\x01r\x00" + numbers},
	{ptr, "\x02NS\x01A\x00", "\x02ns\x01a\x00"},
	{mx, "AB\x02MX\x01A\x00", "AB\x02mx\x01a\x00"},
	{txt, "\x02HI\x01A\x00", "\x02HI\x01A\x00"},
	{aaaa, "0123456789ABCDEF", "0123456789ABCDEF"},
	{srv, "ABCDEF\x02SV\x01A\x00", "ABCDEF\x02sv\x01a\x00"},
	{99, "\x01A\x00", "\x01A\x00"},
	{0, "\x01A\x00", "\x01A\x00"},
	{256 + ns, "\x01A\x00", "\x01A\x00"},
	{65536 + ns, "\x01A\x00", "\x01A\x00"},
	{-ns, "\x01A\x00", "\x01A\x00"},
	{ns, "\x01\xc1\x00", "\x01\xc1\x00"},
	{ns, "\x05@AZ[\xff\x00", "\x05@az[\xff\x00"},
}

func TestSaidOfDataWithCapitals(t *testing.T) {
	for _, x := range caps {
		for _, class := range append([]int{-1, 65536 + in, math.MinInt, math.MaxInt}, classes...) {
			checkSaid(t, rr("\x01N\x00", x.typ, class, 5, x.data), x.folded)
			checkSaid(t, rr("\x01N\x00", x.typ, class, 5, x.folded), x.folded)
			checkSaid(t, rr("no name", x.typ, class, -1, x.data), x.folded)
		}
	}
}

func TestSaidOfDataThatIsNotValid(t *testing.T) {
	for _, class := range classes {
		for _, typ := range listed {
			for _, data := range invalid(typ) {
				checkSaid(t, rr("\x01N\x00", typ, class, 5, data), data)
			}
			checkSaid(t, rr("\x01N\x00", typ, class, 5, ""), "")
		}
		for _, typ := range []int{ns, txt, 99, math.MaxInt} {
			for _, size := range []int{maxData, maxData + 1, 100000} {
				checkSaid(t, rr("\x01N\x00", typ, class, 5, strings.Repeat("A", size)), strings.Repeat("A", size))
			}
		}
		checkSaid(t, rr("\x01N\x00", 99, class, 5, ""), "")
	}
}

// ordered are records in their order, in groups that are equal. Where one step decides, the steps after it mostly say the opposite.
var ordered = [][]api.RR{
	// By names.
	{rr("\x00", 65535, 65535, 5, "\xff"), rr("\x00", 65535, 65535, 0, "\xff")},
	{rr("\x01\x00\x00", 65535, 65535, 5, "\xff")},
	{rr("\x01A\x00", 65535, 65535, 5, "\xff"), rr("\x01a\x00", 65535, 65535, 6, "\xff")},
	{rr("\x01z\x01A\x00", 65534, 65535, 5, "\xff"), rr("\x01Z\x01a\x00", 65534, 65535, 5, "\xff")},
	{rr("\x02aa\x00", 65533, 65535, 5, "\xff"), rr("\x02AA\x00", 65533, 65535, maxTTL, "\xff")},
	{rr("\x02a\x7f\x00", 65532, 65535, 5, "\xff")},
	{rr("\x02a\x80\x00", 65531, 65535, 5, "\xff")},
	{rr("\x02a\xff\x00", 65530, 65535, 5, "\xff")},
	// By types.
	{rr("\x01B\x00", math.MinInt, 65535, 5, "\xff")},
	{rr("\x01b\x00", -1, 65535, 5, "\xff")},
	{rr("\x01B\x00", 0, 65535, 5, "\xff")},
	{rr("\x01b\x00", a, 65535, 5, "\xff")},
	{rr("\x01B\x00", ns, 65535, 5, "\xff")},
	{rr("\x01b\x00", 255, 65534, 5, "\xff")},
	{rr("\x01B\x00", 256, 65533, 5, "\xff")},
	{rr("\x01b\x00", 65535, 65532, 5, "\xff")},
	{rr("\x01B\x00", 1<<32, 65532, 5, "\xff")},
	{rr("\x01b\x00", math.MaxInt, 65531, 5, "\xff")},
	// By classes.
	{rr("\x01c\x00", a, math.MinInt, 5, "\xff")},
	{rr("\x01C\x00", a, -1, 5, "\xff")},
	{rr("\x01c\x00", a, 0, 5, "\xff")},
	{rr("\x01C\x00", a, in, 5, "\xff"), rr("\x01c\x00", a, in, -1, "\xff")},
	{rr("\x01c\x00", a, none, 5, "\xfe")},
	{rr("\x01C\x00", a, anyClass, 5, "\xfd")},
	{rr("\x01c\x00", a, 256, 5, "\xfc")},
	{rr("\x01C\x00", a, 65535, 5, "\x01")},
	{rr("\x01c\x00", a, 1<<32, 5, "\x01")},
	{rr("\x01C\x00", a, math.MaxInt, 5, "")},
	// By data.
	{rr("\x01d\x00", a, in, 5, ""), rr("\x01D\x00", a, in, 9, "")},
	{rr("\x01d\x00", a, in, 4, "\x00")},
	{rr("\x01d\x00", a, in, 3, "\x00\x00\x00\x00")},
	{rr("\x01d\x00", a, in, 2, "\x00\x00\x00\x00\x00")},
	{rr("\x01d\x00", a, in, 1, "\x00\x00\x00\x01"), rr("\x01D\x00", a, in, maxTTL, "\x00\x00\x00\x01")},
	{rr("\x01d\x00", a, in, 0, "ABCD")},
	{rr("\x01d\x00", a, in, 5, "abcd")},
	{rr("\x01d\x00", a, in, 5, "\x7fbcd")},
	{rr("\x01d\x00", a, in, 5, "\x80bcd")},
	{rr("\x01d\x00", a, in, 5, "\xffbcd")},
	// By data that is folded: bytewise, so that lengths of labels count, and the first label first.
	{rr("\x01d\x00", ns, in, 5, "\x00")},
	{rr("\x01d\x00", ns, in, 5, "\x01@\x00")},
	{rr("\x01d\x00", ns, in, 5, "\x01[\x00")},
	{rr("\x01d\x00", ns, in, 5, "\x01a\x00"), rr("\x01d\x00", ns, in, 6, "\x01A\x00")},
	{rr("\x01d\x00", ns, in, 5, "\x01A\x01b\x00"), rr("\x01D\x00", ns, in, 5, "\x01a\x01B\x00")},
	{rr("\x01d\x00", ns, in, 5, "\x01B\x00"), rr("\x01d\x00", ns, in, 5, "\x01b\x00")},
	{rr("\x01d\x00", ns, in, 5, "\x01b\x01a\x00"), rr("\x01d\x00", ns, in, 5, "\x01B\x01A\x00")},
	{rr("\x01d\x00", ns, in, 5, "\x01z\x00")},
	// By data that is not valid, and not folded.
	{rr("\x01d\x00", ns, in, 5, "\x02A\x00")},
	{rr("\x01d\x00", ns, in, 5, "\x02AB")},
	{rr("\x01d\x00", ns, in, 5, "\x02Ab")},
	{rr("\x01d\x00", ns, in, 5, "\x02AA\x00"), rr("\x01d\x00", ns, in, 5, "\x02aa\x00")},
	{rr("\x01d\x00", ns, in, 5, "\x02ab")},
	// By data of any class, which is folded according to its type.
	{rr("\x01d\x00", ns, 3, 5, "\x01B")},
	{rr("\x01d\x00", ns, 3, 5, "\x01a\x00"), rr("\x01d\x00", ns, 3, 5, "\x01A\x00")},
	{rr("\x01d\x00", ns, 3, 5, "\x01b")},
	{rr("\x01d\x00", ns, 3, 5, "\x01B\x00"), rr("\x01d\x00", ns, 3, 5, "\x01b\x00")},
	{rr("\x01d\x00", ns, none, 5, "")},
	{rr("\x01d\x00", ns, none, 5, "\x01a\x00"), rr("\x01d\x00", ns, none, 5, "\x01A\x00")},
	{rr("\x01d\x00", soa, in, 5, "\x01m\x00\x01R\x00"+numbers), rr("\x01d\x00", soa, in, 5, "\x01M\x00\x01r\x00"+numbers)},
	{rr("\x01d\x00", soa, in, 5, "\x01m\x00\x01R\x00"+strings.ToLower(numbers)), rr("\x01d\x00", soa, in, 5, "\x01M\x00\x01r\x00"+strings.ToLower(numbers))},
	{rr("\x01d\x00", mx, in, 5, "AB\x01a\x00"), rr("\x01d\x00", mx, in, 5, "AB\x01A\x00")},
	{rr("\x01d\x00", mx, in, 5, "Ab\x01a\x00")},
	{rr("\x01d\x00", mx, in, 5, "ab\x01a\x00"), rr("\x01d\x00", mx, in, 5, "ab\x01A\x00")},
	{rr("\x01d\x00", txt, in, 5, "\x01A\x00")},
	{rr("\x01d\x00", txt, in, 5, "\x01a\x00")},
	{rr("\x01d\x00", srv, in, 5, "ABCDEF\x01A\x00"), rr("\x01d\x00", srv, in, 5, "ABCDEF\x01a\x00")},
	{rr("\x01d\x00", srv, in, 5, "ABCDEf\x01A\x00"), rr("\x01d\x00", srv, in, 5, "ABCDEf\x01a\x00")},
	{rr("\x01d\x00", 99, in, 5, "\x01A\x00")},
	{rr("\x01d\x00", 99, in, 5, "\x01a\x00")},
	{rr("\x01d\x00", 99, none, 5, "")},
}

func TestOrderOfRecords(t *testing.T) {
	for i, first := range ordered {
		for j, second := range ordered {
			for _, r := range first {
				for _, s := range second {
					switch {
					case i < j:
						checkOrder(t, r, s, -1, false)
					case i == j:
						checkOrder(t, r, s, 0, true)
					}
				}
			}
		}
	}
}

// Each step decides where the ones before it are the same, whatever the ones after it say.
func TestEachStepOfTheOrder(t *testing.T) {
	low, high := rr("\x01a\x00", a, in, 1, "abca"), rr("\x01b\x00", ns, anyClass, 2, "bbcd")
	pick := func(side bool) api.RR {
		if side {
			return high
		}
		return low
	}
	for sides := range 16 {
		side := func(bit int) bool { return sides>>bit&1 == 1 }
		r := rr(pick(side(0)).Name, pick(side(1)).Type, pick(side(2)).Class, 1, pick(side(3)).Data)
		s := rr(pick(!side(0)).Name, pick(!side(1)).Type, pick(!side(2)).Class, 2, pick(!side(3)).Data)
		for step := range 4 {
			want := -1
			if side(step) {
				want = 1
			}
			checkOrder(t, r, s, want, false)
			switch step { // the next step is to decide
			case 0:
				r.Name = strings.ToUpper(s.Name)
			case 1:
				r.Type = s.Type
			case 2:
				r.Class = s.Class
			case 3:
				r.Data = s.Data
			}
		}
		checkOrder(t, r, s, 0, true)
	}
}

func TestOneOfRecordsThatDifferInOneField(t *testing.T) {
	r := rr("\x01a\x00", ns, in, 5, "\x01x\x00")
	checkOrder(t, r, r, 0, true)
	for _, s := range []api.RR{
		rr("\x01A\x00", ns, in, 5, "\x01x\x00"),
		rr("\x01a\x00", ns, in, 6, "\x01x\x00"),
		rr("\x01a\x00", ns, in, math.MinInt, "\x01x\x00"),
		rr("\x01a\x00", ns, in, 5, "\x01X\x00"),
		rr("\x01A\x00", ns, in, math.MaxInt, "\x01X\x00"),
	} {
		checkOrder(t, r, s, 0, true)
	}
	for _, s := range []api.RR{
		rr("\x01b\x00", ns, in, 5, "\x01x\x00"),
		rr("\x01a\x01a\x00", ns, in, 5, "\x01x\x00"),
		rr("\x01a\x00", cname, in, 5, "\x01x\x00"),
		rr("\x01a\x00", ptr, in, 5, "\x01x\x00"),
		rr("\x01a\x00", 256+ns, in, 5, "\x01x\x00"),
		rr("\x01a\x00", 1<<32+ns, in, 5, "\x01x\x00"),
		rr("\x01a\x00", ns, none, 5, "\x01x\x00"),
		rr("\x01a\x00", ns, 256+in, 5, "\x01x\x00"),
		rr("\x01a\x00", ns, 1<<32+in, 5, "\x01x\x00"),
		rr("\x01a\x00", ns, in, 5, "\x01y\x00"),
		rr("\x01a\x00", ns, in, 5, "\x02xx\x00"),
		rr("\x01a\x00", ns, in, 5, "\x01x\x01x\x00"),
	} {
		checkOrder(t, r, s, -1, false)
	}
	for _, s := range []api.RR{
		rr("\x00", ns, in, 5, "\x01x\x00"),
		rr("\x01a\x00", a, in, 5, "\x01x\x00"),
		rr("\x01a\x00", -ns, in, 5, "\x01x\x00"),
		rr("\x01a\x00", ns, 0, 5, "\x01x\x00"),
		rr("\x01a\x00", ns, -in, 5, "\x01x\x00"),
		rr("\x01a\x00", ns, in, 5, "\x01w\x00"),
		rr("\x01a\x00", ns, in, 5, "\x01W\x00"),
		rr("\x01a\x00", ns, in, 5, "\x01x"),
		rr("\x01a\x00", ns, in, 5, "\x01X\x00\x00"),
		rr("\x01a\x00", ns, in, 5, ""),
	} {
		checkOrder(t, r, s, 1, false)
	}
}

// Strings that are not names are equal to nothing, but the order goes on with the next step.
func TestOrderOfWhatIsNoName(t *testing.T) {
	names := append([]string{"\x00", "\x01a\x00", "\x01b\x00", longest}, wrongNames...)
	for i, n := range names {
		for j, m := range names {
			if i < 4 && j < 4 {
				continue
			}
			checkOrder(t, rr(n, ns, in, 5, "\x01x\x00"), rr(m, ns, in, 5, "\x01X\x00"), 0, false)
			checkOrder(t, rr(n, a, anyClass, 5, "b"), rr(m, ns, in, 5, "a"), -1, false)
			checkOrder(t, rr(n, ns, in, 5, "b"), rr(m, ns, anyClass, 5, "a"), -1, false)
			checkOrder(t, rr(n, ns, in, 5, "\x01A\x00"), rr(m, ns, in, 5, "\x01b\x00"), -1, false)
			checkOrder(t, rr(n, ns, in, 5, "\x01a\x00"), rr(m, ns, in, 5, "\x01B\x00"), -1, false)
		}
	}
	checkOrder(t, api.RR{}, api.RR{}, 0, false)
	checkOrder(t, rr("x", a, in, 5, "abcd"), rr("x", a, in, 5, "abcd"), 0, false)
}

// P11.2

func TestReadOfTheExample(t *testing.T) {
	msg := "\x01a\x00" + "\x00\x01\x00\x01" + "\x00\x00\x00\x05" + "\x00\x04\x0a\x00\x00\x01"
	checkRecord(t, msg, 0, rr("\x01a\x00", 1, 1, 5, "\x0a\x00\x00\x01"))
	checkRecord(t, "xyz"+msg, 3, rr("\x01a\x00", 1, 1, 5, "\x0a\x00\x00\x01"))
	checkRecord(t, msg, 2, rr("\x00", 1, 1, 5, "\x0a\x00\x00\x01"))
	checkEverywhere(t, msg+msg)
}

func TestReadOutsideOfTheMessage(t *testing.T) {
	for _, msg := range []string{"", "\x00", bytesOf("\x00", 99, in, 5, ""), bytesOf("\x01a\x00", a, in, 5, "abcd")} {
		for _, at := range []int{-1, -2, -len(msg) - 1, math.MinInt, len(msg) + 1, len(msg) + 2, len(msg) + 1000, math.MaxInt} {
			checkRead(t, msg, at, api.RR{}, 0, api.ErrArg)
		}
		checkNone(t, msg, len(msg))
	}
}

func TestReadOfEachNumber(t *testing.T) {
	checkRecord(t, "\x00\x01\x02\x03\x04\x05\x06\x07\x08\x00\x03abc", 0, rr("\x00", 0x0102, 0x0304, 0x05060708, "abc"))
	for _, n := range []int{0, 1, 2, 254, 255, 256, 0x7fff, 0x8000, 65534, 65535} {
		checkRecord(t, bytesOf("\x00", n, 3, 5, "\x00"), 0, rr("\x00", n, 3, 5, "\x00"))
		checkRecord(t, bytesOf("\x00", 99, n, 5, "\x00"), 0, rr("\x00", 99, n, 5, "\x00"))
		checkRecord(t, bytesOf("\x00", 99, 3, n, "\x00"), 0, rr("\x00", 99, 3, n, "\x00"))
	}
}

func TestReadOfEachTTL(t *testing.T) {
	for _, class := range classes {
		for _, ttl := range []int{0, 1, 255, 256, 65535, 65536, 1<<24 - 1, 1 << 24, 1 << 30, maxTTL - 1, maxTTL} {
			checkRecord(t, bytesOf("\x01a\x00", a, class, ttl, "abcd"), 0, rr("\x01a\x00", a, class, ttl, "abcd"))
		}
		for _, ttl := range []int{maxTTL + 1, maxTTL + 2, maxTTL + 6, 3 << 30, 1<<32 - 2, 1<<32 - 1} {
			checkRecord(t, bytesOf("\x01a\x00", a, class, ttl, "abcd"), 0, rr("\x01a\x00", a, class, 0, "abcd"))
		}
	}
}

// A record is cut off at each of its bytes, at the end of the message.
func TestReadOfWhatIsCutOff(t *testing.T) {
	for _, first := range []string{"", "\x01q\x00"} {
		for _, class := range classes {
			for _, typ := range append(unlisted, listed...) {
				for _, data := range valid(typ) {
					msg := first + bytesOf("\x01a\x02bc\x00", typ, class, 5, data)
					for end := len(first); end < len(msg); end++ {
						checkNone(t, msg[:end], len(first))
					}
					checkRecord(t, msg, len(first), rr("\x01a\x02bc\x00", typ, class, 5, data))
				}
			}
		}
	}
	msg := "\x01q\x00" + bytesOf("\x01a\xc0\x00", mx, in, 5, "12\x01b\xc0\x03")
	for end := 3; end < len(msg); end++ {
		checkNone(t, msg[:end], 3)
	}
	checkRecord(t, msg, 3, rr("\x01a\x01q\x00", mx, in, 5, "12\x01b\x01a\x01q\x00"))
}

// The message has bytes enough, but the number does not fit the data.
func TestReadOfANumberOfBytesThatIsOneTooSmallOrTooGreat(t *testing.T) {
	for _, class := range []int{in, none} {
		for _, typ := range listed {
			for _, data := range valid(typ) {
				head := "\x01a\x00" + two(typ) + two(class) + four(5)
				for _, more := range []string{"x", "\xc0", "\x01", "\xff"} {
					checkRead(t, head+two(len(data))+data+more, 0, rr("\x01a\x00", typ, class, 5, data), 3+10+len(data), api.OK)
					checkNone(t, head+two(len(data)+1)+data+more, 0)
					if typ != txt && (class == in || len(data) > 1) {
						checkNone(t, head+two(len(data)-1)+data+more, 0)
					}
				}
			}
		}
		msg := "\x01q\x00" + "\x01a\x00" + two(cname) + two(class) + four(5)
		for size := range 9 {
			switch {
			case size == 4:
				checkRead(t, msg+two(size)+"\x01c\xc0\x00zzzzz", 3, rr("\x01a\x00", cname, class, 5, "\x01c\x01q\x00"), 20, api.OK)
			case size == 0 && class == none:
				checkRead(t, msg+two(size)+"\x01c\xc0\x00zzzzz", 3, rr("\x01a\x00", cname, class, 5, ""), 16, api.OK)
			default:
				checkNone(t, msg+two(size)+"\x01c\xc0\x00zzzzz", 3)
			}
		}
	}
	for _, class := range classes {
		for size := range 9 {
			head := "\x01a\x00" + two(99) + two(class) + four(5)
			checkRead(t, head+two(size)+"\x01c\xc0\x00zzzzz", 0, rr("\x01a\x00", 99, class, 5, "\x01c\xc0\x00zzzzz"[:size]), 13+size, api.OK)
		}
	}
}

func TestReadOfDataOfEachTypeAndClass(t *testing.T) {
	for _, class := range classes {
		for _, typ := range append(unlisted, listed...) {
			for _, data := range valid(typ) {
				checkRecord(t, "xyz"+bytesOf("\x01A\x00", typ, class, 5, data), 3, rr("\x01A\x00", typ, class, 5, data))
			}
		}
		for _, typ := range listed {
			for _, data := range append(invalid(typ), "") {
				msg := "xyz" + bytesOf("\x01A\x00", typ, class, 5, data)
				r, next, e := modelRead(msg, 3)
				switch {
				case class != in && class != none, class == none && data == "":
					checkRecord(t, msg, 3, rr("\x01A\x00", typ, class, 5, data))
				case !strings.Contains(data, "\xc0"):
					checkNone(t, msg, 3)
				}
				checkRead(t, msg, 3, r, next, e)
			}
		}
	}
}

func TestReadOfNoData(t *testing.T) {
	for _, class := range classes {
		for _, more := range []string{"", "abcd", "\x01a\x00", "\x00"} {
			for _, typ := range listed {
				msg := bytesOf("\x01a\x00", typ, class, 5, "")
				if class == in {
					checkNone(t, msg+more, 0)
				} else {
					checkRead(t, msg+more, 0, rr("\x01a\x00", typ, class, 5, ""), len(msg), api.OK)
				}
			}
			for _, typ := range unlisted {
				msg := bytesOf("\x01a\x00", typ, class, 5, "")
				checkRead(t, msg+more, 0, rr("\x01a\x00", typ, class, 5, ""), len(msg), api.OK)
			}
		}
	}
}

func TestReadOfPointers(t *testing.T) {
	msg := "\x03www\x02Ex\x00"
	checkRecord(t, msg+bytesOf("\xc0\x00", a, in, 5, "abcd"), 8, rr("\x03www\x02Ex\x00", a, in, 5, "abcd"))
	checkRecord(t, msg+bytesOf("\xc0\x07", a, in, 5, "abcd"), 8, rr("\x00", a, in, 5, "abcd"))
	checkRecord(t, msg+bytesOf("\x01B\xc0\x04", a, in, 5, "abcd"), 8, rr("\x01B\x02Ex\x00", a, in, 5, "abcd"))
	for _, class := range []int{in, none} {
		for _, typ := range []int{ns, cname, ptr} {
			checkRecord(t, msg+bytesOf("\x00", typ, class, 5, "\xc0\x00"), 8, rr("\x00", typ, class, 5, "\x03www\x02Ex\x00"))
			checkRecord(t, msg+bytesOf("\x01B\xc0\x04", typ, class, 5, "\x01C\xc0\x08"), 8, rr("\x01B\x02Ex\x00", typ, class, 5, "\x01C\x01B\x02Ex\x00"))
		}
		checkRecord(t, msg+bytesOf("\xc0\x00", mx, class, 5, "\xc0\x00\xc0\x04"), 8, rr("\x03www\x02Ex\x00", mx, class, 5, "\xc0\x00\x02Ex\x00"))
		checkRecord(t, msg+bytesOf("\xc0\x00", soa, class, 5, "\xc0\x04\x01R\xc0\x00"+numbers), 8, rr("\x03www\x02Ex\x00", soa, class, 5, "\x02Ex\x00\x01R\x03www\x02Ex\x00"+numbers))
		// The second name may lead to the first one, which begins at 8 + 2 + 10.
		checkRecord(t, msg+bytesOf("\xc0\x00", soa, class, 5, "\x01M\xc0\x04\xc0\x14"+numbers), 8, rr("\x03www\x02Ex\x00", soa, class, 5, "\x01M\x02Ex\x00\x01M\x02Ex\x00"+numbers))
	}
}

func TestReadOfPointersThatDoNotLeadBackward(t *testing.T) {
	msg := "\x01q\x00"
	for to := 3; to < 40; to++ {
		checkNone(t, msg+bytesOf(pointer(to), a, in, 5, "abcd")+msg, 3)
		checkNone(t, msg+bytesOf("\x01a"+pointer(to), a, in, 5, "abcd")+msg, 3)
	}
	for _, class := range []int{in, none} {
		for to := 14; to < 40; to++ { // the data begins at 3 + 1 + 10
			checkNone(t, msg+bytesOf("\x00", ns, class, 5, pointer(to))+msg, 3)
			checkNone(t, msg+bytesOf("\x00", ns, class, 5, "\x01a"+pointer(to))+msg, 3)
			checkNone(t, msg+bytesOf("\x00", mx, class, 5, "\x00\x00"+pointer(to+2))+msg, 3)
		}
		checkRecord(t, msg+bytesOf("\x00", mx, class, 5, "\x00\x00"+pointer(14)), 3, rr("\x00", mx, class, 5, "\x00\x00\x00"))
	}
}

// Only the classes IN and NONE have pointers in their data.
func TestReadOfBytesThatLookLikePointers(t *testing.T) {
	for _, class := range plain {
		for _, typ := range append(unlisted, listed...) {
			for _, data := range []string{"\xc0\x00", "\x01b\xc0\x00", "12\xc0\x00", "\xc0\x00\xc0\x00" + numbers, "123456\xc0\x00", "\xc0", "\xff\xff"} {
				checkRecord(t, "\x01q\x00"+bytesOf("\x01a\x00", typ, class, 5, data), 3, rr("\x01a\x00", typ, class, 5, data))
			}
		}
	}
	for _, class := range classes {
		for _, typ := range unlisted {
			checkRecord(t, "\x01q\x00"+bytesOf("\x01a\x00", typ, class, 5, "\xc0\x00"), 3, rr("\x01a\x00", typ, class, 5, "\xc0\x00"))
		}
		checkRecord(t, "\x01q\x00"+bytesOf("\x01a\x00", a, class, 5, "\xc0\x00\xc0\x00"), 3, rr("\x01a\x00", a, class, 5, "\xc0\x00\xc0\x00"))
		checkRecord(t, "\x01q\x00"+bytesOf("\x01a\x00", txt, class, 5, "\x02\xc0\x00"), 3, rr("\x01a\x00", txt, class, 5, "\x02\xc0\x00"))
	}
}

func TestReadOfSRV(t *testing.T) {
	for _, class := range []int{in, none} {
		checkRecord(t, "\x01q\x00"+bytesOf("\xc0\x00", srv, class, 5, "123456\x01q\x00"), 3, rr("\x01q\x00", srv, class, 5, "123456\x01q\x00"))
		checkNone(t, "\x01q\x00"+bytesOf("\xc0\x00", srv, class, 5, "123456\xc0\x00"), 3)
		checkNone(t, "\x01q\x00"+bytesOf("\xc0\x00", srv, class, 5, "123456\x01a\xc0\x00"), 3)
		checkNone(t, "\x01q\x00"+bytesOf("\xc0\x00", srv, class, 5, "123456\xc0\x02"), 3)
	}
}

// A pointer in the data may lead to labels that go on beyond the record: the model reads data in the whole message, too.
func TestReadOfLabelsBeyondTheRecord(t *testing.T) {
	for size := range 40 {
		msg := string([]byte{byte(size)}) + bytesOf("\x00", ns, in, 5, "\x01a\xc0\x00") + strings.Repeat("\x01y", 5) + "\x00"
		r, next, e := modelRead(msg, 1)
		checkRead(t, msg, 1, r, next, e)
		checkNone(t, msg[:15], 1)
		checkEverywhere(t, msg)
	}
}

func TestReadOfWrongNames(t *testing.T) {
	for _, n := range []string{"\x40" + strings.Repeat("a", 64) + "\x00", "\x80\x00", "\xbf\x00", "\xff\xff", tooLong, "\x01a\x80\x00", strings.Repeat("\x01a", 128) + "\x00"} {
		for _, class := range classes {
			checkNone(t, "xyz"+bytesOf(n, 99, class, 5, "abcd"), 3)
			r, next, e := modelRead("xyz"+bytesOf("\x01a\x00", ns, class, 5, n), 3)
			checkRead(t, "xyz"+bytesOf("\x01a\x00", ns, class, 5, n), 3, r, next, e)
		}
		checkNone(t, "xyz"+bytesOf("\x01a\x00", ns, in, 5, n), 3)
	}
	checkNone(t, longest+bytesOf("\x01a\xc0\x00", 99, in, 5, "abcd"), 255)
	checkNone(t, longest+bytesOf("\xc0\x00", ns, in, 5, "\x01a\xc0\x00"), 255)
	checkRecord(t, longest+bytesOf("\xc0\x00", ns, in, 5, "\xc0\x00"), 255, rr(longest, ns, in, 5, longest))
}

func TestReadOfMaxDataBytes(t *testing.T) {
	for _, class := range classes {
		for _, size := range []int{255, 256, 257, 0x7fff, 0x8000, maxData - 1, maxData} {
			data := strings.Repeat("A", size)
			checkRecord(t, "xyz"+bytesOf("\x01a\x00", 99, class, 5, data), 3, rr("\x01a\x00", 99, class, 5, data))
			checkNone(t, "xyz"+bytesOf("\x01a\x00", 99, class, 5, data)[:12+size], 3)
			checkRecord(t, bytesOf("\x01a\x00", txt, class, 5, texts(size)), 0, rr("\x01a\x00", txt, class, 5, texts(size)))
		}
	}
}

func TestReadFarBehind(t *testing.T) {
	msg := "\x01q\x00" + pad(100000)
	checkRecord(t, msg+bytesOf("\xc0\x00", ns, in, 5, "\x01b\xc0\x00"), len(msg), rr("\x01q\x00", ns, in, 5, "\x01b\x01q\x00"))
}

// Every record that is put together of a few names, numbers and data, at each offset.
func TestReadOfManyShortMessages(t *testing.T) {
	for _, n := range []string{"", "\x00", "\x01a\x00", "\x01a", "\xc0\x00", "\x01a\xc0\x01"} {
		for _, typ := range []string{"", "\x00", "\x00\x01", "\x00\x02", "\x00\x0f", "\x00\x10", "\x00\x21", "\x02\x00"} {
			for _, class := range []string{"\x00", "\x00\x00", "\x00\x01", "\x00\xfe", "\x00\xff", "\x01\x01"} {
				for _, size := range []string{"\x00", "\x00\x00", "\x00\x01", "\x00\x02", "\x00\x04", "\x00\x07", "\x01\x00"} {
					for _, data := range []string{"", "\x00", "\x01b\x00", "\x01b", "\xc0\x00", "\x00\x00\xc0\x00", "\x00\x00\x00\x00\x00\x00\x00"} {
						checkEverywhere(t, "\x00"+n+typ+class+"\x00\x00\x00\x05"+size+data)
					}
				}
			}
		}
	}
}

func randomName(r *rand.Rand) string {
	parts := []string{"a", "A", "b", "aB", "\x00", "\x01a", "\xc0\x00", "\xff", strings.Repeat("Z", 63)}
	var labels []string
	for range r.Intn(4) {
		labels = append(labels, parts[r.Intn(1+r.Intn(len(parts)))])
	}
	return wire(labels...)
}

func randomBytes(r *rand.Rand, size int) string {
	b := make([]byte, size)
	for i := range b {
		b[i] = "\x00\x01\x02ABz\xc0\xff"[r.Intn(8)]
	}
	return string(b)
}

func pickOf(r *rand.Rand, l []int) int {
	return l[r.Intn(len(l))]
}

func randomType(r *rand.Rand) int {
	if r.Intn(6) == 0 {
		return pickOf(r, unlisted)
	}
	return pickOf(r, listed)
}

func randomClass(r *rand.Rand) int {
	if r.Intn(3) == 0 {
		return pickOf(r, classes)
	}
	return []int{in, in, none}[r.Intn(3)]
}

// randomData is valid.
func randomData(r *rand.Rand, typ int) string {
	switch typ {
	case a:
		return randomBytes(r, 4)
	case aaaa:
		return randomBytes(r, 16)
	case ns, cname, ptr:
		return randomName(r)
	case mx:
		return randomBytes(r, 2) + randomName(r)
	case soa:
		return randomName(r) + randomName(r) + randomBytes(r, 20)
	case srv:
		return randomBytes(r, 6) + randomName(r)
	case txt:
		data := ""
		for range 1 + r.Intn(3) {
			s := randomBytes(r, r.Intn(4))
			data += string([]byte{byte(len(s))}) + s
		}
		return data
	}
	return randomBytes(r, r.Intn(8))
}

// randomRecord is valid.
func randomRecord(r *rand.Rand) api.RR {
	typ, class := randomType(r), randomClass(r)
	data := randomData(r, typ)
	switch {
	case class == none && r.Intn(3) == 0:
		data = ""
	case class != in && class != none && r.Intn(2) == 0:
		data = randomBytes(r, r.Intn(8))
	}
	ttl := []int{0, 5, maxTTL, r.Intn(maxTTL)}[r.Intn(4)]
	return rr(randomName(r), typ, class, ttl, data)
}

// changed is s, mostly with a small change.
func changed(r *rand.Rand, s string) string {
	i := r.Intn(len(s) + 1)
	switch r.Intn(5) {
	case 0:
		return s[:i] + randomBytes(r, 1) + s[i:]
	case 1:
		return s[:i]
	case 2:
		return s[:i] + s[min(len(s), i+1):]
	case 3:
		return s[:i] + randomBytes(r, min(1, len(s)-i)) + s[min(len(s), i+1):]
	}
	return s
}

func TestReadOfRandomMessages(t *testing.T) {
	r := rand.New(rand.NewSource(111))
	for range 10000 {
		p := pack.New()
		var begins []int
		for range 1 + r.Intn(4) {
			begins = append(begins, p.Len())
			record.Write(p, randomRecord(r))
		}
		msg := p.Bytes()
		checkEverywhere(t, msg)
		msg = changed(r, msg)
		for _, at := range begins {
			x, next, e := modelRead(msg, at)
			switch {
			case at > len(msg):
				checkRead(t, msg, at, api.RR{}, 0, api.ErrArg)
			default:
				checkRead(t, msg, at, x, next, e)
			}
		}
	}
}

func TestWriteOfTheExample(t *testing.T) {
	p := pack.New()
	checkWrite(t, p, rr("\x01a\x00", 1, 1, 5, "\x0a\x00\x00\x01"), "\x01a\x00"+"\x00\x01\x00\x01"+"\x00\x00\x00\x05"+"\x00\x04\x0a\x00\x00\x01")
	checkWrite(t, p, rr("\x00", 0x0102, 0x0304, 0x05060708, "abc"), "\x00\x01\x02\x03\x04\x05\x06\x07\x08\x00\x03abc")
	checkWrite(t, p, rr("\x00", 65535, 65535, maxTTL, "\xff"), "\x00\xff\xff\xff\xff\x7f\xff\xff\xff\x00\x01\xff")
	checkWrite(t, p, rr("\x00", 0, 0, 0, ""), "\x00\x00\x00\x00\x00\x00\x00\x00\x00\x00\x00")
}

// wrongRecords are not valid.
func wrongRecords() []api.RR {
	l := []api.RR{
		{},
		rr("\x01b\x00", -1, in, 5, "abcd"),
		rr("\x01b\x00", 65536, in, 5, "abcd"),
		rr("\x01b\x00", 65536+a, 3, 5, "abcd"),
		rr("\x01b\x00", a, -1, 5, "abcd"),
		rr("\x01b\x00", a, 65536, 5, "abcd"),
		rr("\x01b\x00", a, 65536+in, 5, "abcd"),
		rr("\x01b\x00", a, in, -1, "abcd"),
		rr("\x01b\x00", a, in, maxTTL+1, "abcd"),
		rr("\x01b\x00", a, in, 1<<32+5, "abcd"),
		rr("\x01b\x00", a, in, math.MinInt, "abcd"),
		rr("\x01b\x00", 99, in, 5, strings.Repeat("A", maxData+1)),
		rr("\x01b\x00", 99, none, 5, strings.Repeat("A", maxData+1)),
		rr("\x01b\x00", ns, anyClass, 5, strings.Repeat("A", maxData+1)),
		rr("\x01b\x00", txt, in, 5, texts(maxData+1)),
	}
	for _, n := range wrongNames {
		l = append(l, rr(n, a, in, 5, "abcd"), rr(n, a, anyClass, 5, ""))
	}
	for _, typ := range listed {
		l = append(l, rr("\x01b\x00", typ, in, 5, ""))
		for _, data := range invalid(typ) {
			l = append(l, rr("\x01b\x00", typ, in, 5, data), rr("\x01b\x00", typ, none, 5, data))
		}
	}
	return l
}

func TestWriteOfWhatIsNotValid(t *testing.T) {
	p := pack.New()
	for _, r := range wrongRecords() {
		checkNoWrite(t, p, r)
	}
	checkWrite(t, p, rr("\x01b\x00", a, in, 5, "abcd"), bytesOf("\x01b\x00", a, in, 5, "abcd"))
	for _, r := range wrongRecords() {
		checkNoWrite(t, p, r)
	}
}

func TestWriteOfWhatIsNotValidMakesNothingKnown(t *testing.T) {
	p := pack.New()
	p.Raw("xyz")
	checkNoWrite(t, p, rr("\x01b\x00", ns, in, 5, "\x01c\x00\x00"))
	checkNoWrite(t, p, rr("\x01b\x00", mx, none, 5, "12\x01c\x00\x00"))
	checkNoWrite(t, p, rr("\x01b\x00", ns, in, -1, "\x01c\x00"))
	checkNoWrite(t, p, rr("\x01b\x00\x00", ns, in, 5, "\x01c\x00"))
	checkName(t, p, "\x01b\x00", "\x01b\x00")
	checkName(t, p, "\x01c\x00", "\x01c\x00")
}

func TestWriteOfNamesThatAreKnown(t *testing.T) {
	for _, class := range []int{in, none} {
		p := pack.New()
		checkName(t, p, "\x03www\x02ex\x00", "\x03www\x02ex\x00")
		checkWrite(t, p, rr("\x03www\x02ex\x00", a, class, 5, "abcd"), bytesOf("\xc0\x00", a, class, 5, "abcd"))
		checkWrite(t, p, rr("\x02ex\x00", ns, class, 5, "\x03www\x02ex\x00"), bytesOf("\xc0\x04", ns, class, 5, "\xc0\x00"))
		checkWrite(t, p, rr("\x00", cname, class, 5, "\x02ex\x00"), bytesOf("\x00", cname, class, 5, "\xc0\x04"))
		checkWrite(t, p, rr("\x02EX\x00", ptr, class, 5, "\x01a\x02ex\x00"), bytesOf("\x02EX\x00", ptr, class, 5, "\x01a\xc0\x04"))
		checkWrite(t, p, rr("\x02ex\x00", mx, class, 5, "\x00\x0a\x02ex\x00"), bytesOf("\xc0\x04", mx, class, 5, "\x00\x0a\xc0\x04"))
		checkWrite(t, p, rr("\x02ex\x00", soa, class, 5, "\x01m\x02ex\x00\x01r\x03www\x02ex\x00"+numbers), bytesOf("\xc0\x04", soa, class, 5, "\x01m\xc0\x04\x01r\xc0\x00"+numbers))
		checkWrite(t, p, rr("\x02ex\x00", ns, class, 5, "\x00"), bytesOf("\xc0\x04", ns, class, 5, "\x00"))
	}
}

func TestWriteOfARecordWithItsOwnName(t *testing.T) {
	for _, class := range []int{in, none} {
		for _, first := range []string{"", "xyz", pad(1000)} {
			at := len(first)
			p := pack.New()
			p.Raw(first)
			checkWrite(t, p, rr("\x01a\x01b\x00", ns, class, 5, "\x01a\x01b\x00"), bytesOf("\x01a\x01b\x00", ns, class, 5, pointer(at)))
			p = pack.New()
			p.Raw(first)
			checkWrite(t, p, rr("\x01a\x01b\x00", mx, class, 5, "12\x01c\x01b\x00"), bytesOf("\x01a\x01b\x00", mx, class, 5, "12\x01c"+pointer(at+2)))
			p = pack.New()
			p.Raw(first)
			checkWrite(t, p, rr("\x01b\x00", soa, class, 5, "\x01m\x01b\x00\x01m\x01b\x00"+numbers), bytesOf("\x01b\x00", soa, class, 5, "\x01m"+pointer(at)+pointer(at+3+10)+numbers))
			p = pack.New()
			p.Raw(first)
			checkWrite(t, p, rr("\x00", soa, class, 5, "\x01m\x01b\x00\x01r\x01b\x00"+numbers), bytesOf("\x00", soa, class, 5, "\x01m\x01b\x00\x01r"+pointer(at+1+10+2)+numbers))
		}
	}
}

func TestWriteOfNamesThatBecomeKnown(t *testing.T) {
	for _, class := range []int{in, none} {
		p := pack.New()
		checkWrite(t, p, rr("\x01a\x01b\x00", ns, class, 5, "\x01c\x01d\x00"), bytesOf("\x01a\x01b\x00", ns, class, 5, "\x01c\x01d\x00"))
		checkName(t, p, "\x01a\x01b\x00", "\xc0\x00")
		checkName(t, p, "\x01b\x00", "\xc0\x02")
		checkName(t, p, "\x01c\x01d\x00", "\xc0\x0f") // 5 + 10
		checkName(t, p, "\x01d\x00", "\xc0\x11")
		at := p.Len()
		checkWrite(t, p, rr("\x01e\x01d\x00", mx, class, 5, "12\x01f\x01b\x00"), bytesOf("\x01e\xc0\x11", mx, class, 5, "12\x01f\xc0\x02"))
		checkName(t, p, "\x01e\x01d\x00", pointer(at))
		checkName(t, p, "\x01f\x01b\x00", pointer(at+4+10+2))
		at = p.Len()
		checkWrite(t, p, rr("\x00", soa, class, 5, "\x01x\x00\x01y\x00"+numbers), bytesOf("\x00", soa, class, 5, "\x01x\x00\x01y\x00"+numbers))
		checkName(t, p, "\x01x\x00", pointer(at+11))
		checkName(t, p, "\x01y\x00", pointer(at+14))
	}
}

func TestWriteOfSRV(t *testing.T) {
	for _, class := range []int{in, none} {
		p := pack.New()
		checkWrite(t, p, rr("\x01a\x00", srv, class, 5, "123456\x01a\x00"), bytesOf("\x01a\x00", srv, class, 5, "123456\x01a\x00"))
		checkWrite(t, p, rr("\x01a\x00", srv, class, 5, "123456\x01b\x01a\x00"), bytesOf("\xc0\x00", srv, class, 5, "123456\x01b\x01a\x00"))
		at := 22 + 2 + 10 + 6 // where the second one's name begins
		checkWrite(t, p, rr("\x01b\x01a\x00", srv, class, 5, "123456\x01b\x01a\x00"), bytesOf(pointer(at), srv, class, 5, "123456\x01b\x01a\x00"))
		checkWrite(t, p, rr("\x01a\x00", ns, class, 5, "\x01c\x01b\x01a\x00"), bytesOf("\xc0\x00", ns, class, 5, "\x01c"+pointer(at)))
	}
}

func TestWriteOfNoData(t *testing.T) {
	for _, typ := range append(unlisted, listed...) {
		p := pack.New()
		for _, class := range append([]int{none}, plain...) {
			n := "\x01a\x00"
			if p.Len() > 0 {
				n = "\xc0\x00"
			}
			checkWrite(t, p, rr("\x01a\x00", typ, class, 5, ""), bytesOf(n, typ, class, 5, ""))
		}
	}
}

// Data that is not of the class IN or NONE has no pointers, and none of it becomes known.
func TestWriteOfDataThatLooksLikeNames(t *testing.T) {
	for _, class := range plain {
		for _, typ := range named {
			p := pack.New()
			checkWrite(t, p, rr("\x01a\x00", typ, class, 5, "\x01a\x00"), bytesOf("\x01a\x00", typ, class, 5, "\x01a\x00"))
			checkWrite(t, p, rr("\x01a\x00", typ, class, 5, "\x01b\x00"), bytesOf("\xc0\x00", typ, class, 5, "\x01b\x00"))
			for _, data := range append(valid(typ), invalid(typ)...) {
				checkWrite(t, p, rr("\x01a\x00", typ, class, 5, data), bytesOf("\xc0\x00", typ, class, 5, data))
			}
			checkName(t, p, "\x01b\x00", "\x01b\x00")
			checkName(t, p, "\x02nS\x01A\x00", "\x02nS\x01A\x00")
		}
	}
	for _, class := range classes {
		for _, typ := range unlisted {
			p := pack.New()
			checkWrite(t, p, rr("\x01a\x00", typ, class, 5, "\x01a\x00"), bytesOf("\x01a\x00", typ, class, 5, "\x01a\x00"))
			checkWrite(t, p, rr("\x01a\x00", typ, class, 5, "\x01b\x00"), bytesOf("\xc0\x00", typ, class, 5, "\x01b\x00"))
			checkName(t, p, "\x01b\x00", "\x01b\x00")
		}
	}
}

// The numbers of a record may look like a name, too.
func TestWriteOfNumbersThatLookLikeNames(t *testing.T) {
	p := pack.New()
	checkWrite(t, p, rr("\x00", 0x0161, 0x0001, 0x62000162, "\x01a\x00"), "\x00"+"\x01a"+"\x00\x01"+"b\x00\x01b"+"\x00\x03\x01a\x00")
	checkName(t, p, "\x01a\x00", "\x01a\x00")
	checkName(t, p, "\x01b\x00", "\x01b\x00")
}

func TestWriteAfterBytesThatLookLikeNames(t *testing.T) {
	p := pack.New()
	p.Raw("\x01a\x00\x01b\x00")
	checkWrite(t, p, rr("\x01a\x00", ns, in, 5, "\x01b\x00"), bytesOf("\x01a\x00", ns, in, 5, "\x01b\x00"))
	checkWrite(t, p, rr("\x01a\x00", ns, in, 5, "\x01b\x00"), bytesOf("\xc0\x06", ns, in, 5, "\xc0\x13"))
}

func TestWriteOfMaxDataBytes(t *testing.T) {
	for _, class := range classes {
		p := pack.New()
		for _, size := range []int{255, 256, 257, maxData - 1, maxData} {
			data := strings.Repeat("A", size)
			checkWrite(t, p, rr("\x00", 99, class, 5, data), bytesOf("\x00", 99, class, 5, data))
			checkWrite(t, p, rr("\x00", txt, class, 5, texts(size)), bytesOf("\x00", txt, class, 5, texts(size)))
		}
		checkNoWrite(t, p, rr("\x00", 99, class, 5, strings.Repeat("A", maxData+1)))
	}
}

func TestWriteOfLongNames(t *testing.T) {
	p := pack.New()
	checkWrite(t, p, rr(longest, ns, in, 5, longest), bytesOf(longest, ns, in, 5, "\xc0\x00"))
	checkWrite(t, p, rr(longest[64:], soa, in, 5, longest+longest[128:]+numbers), bytesOf("\xc0\x40", soa, in, 5, "\xc0\x00\xc0\x80"+numbers))
	p = pack.New()
	checkWrite(t, p, rr("\x00", soa, in, 5, longest+longest+numbers), bytesOf("\x00", soa, in, 5, longest+"\xc0\x0b"+numbers))
}

// Where the data begins decides which names in it are known to the ones after them.
func TestWriteNearTheLimitOfPointers(t *testing.T) {
	for at := limit - 40; at <= limit+4; at++ {
		for _, r := range []api.RR{
			rr("\x01a\x01b\x00", ns, in, 5, "\x01a\x01b\x00"),
			rr("\x01a\x01b\x00", mx, none, 5, "12\x01c\x01b\x00"),
			rr("\x00", soa, in, 5, "\x01a\x01b\x00\x01a\x01b\x00"+numbers),
			rr("\x01b\x00", soa, in, 5, "\x01x\x01a\x01b\x00\x01y\x01a\x01b\x00"+numbers),
			rr("\x01a\x01b\x00", srv, in, 5, "123456\x01a\x01b\x00"),
		} {
			p, h := pack.New(), history{}
			p.Raw(pad(at))
			h.raw(pad(at))
			for range 2 {
				before := len(h.bytes())
				h.write(r)
				checkWrite(t, p, r, h.bytes()[before:])
			}
		}
	}
	// The first name's label stands at the last offset of a pointer, and then one behind it.
	soaOf := func(at int) (*pack.Packer, api.RR) {
		p := pack.New()
		p.Raw(pad(at - 11))
		return p, rr("\x00", soa, in, 5, "\x01m\x00\x01m\x00"+numbers)
	}
	p, r := soaOf(limit - 1)
	checkWrite(t, p, r, bytesOf("\x00", soa, in, 5, "\x01m\x00\xff\xff"+numbers))
	p, r = soaOf(limit)
	checkWrite(t, p, r, bytesOf("\x00", soa, in, 5, "\x01m\x00\x01m\x00"+numbers))
}

func TestWriteFarBehind(t *testing.T) {
	p := pack.New()
	checkWrite(t, p, rr("\x01a\x00", ns, in, 5, "\x01b\x00"), bytesOf("\x01a\x00", ns, in, 5, "\x01b\x00"))
	p.Raw(pad(100000))
	for range 2 {
		checkWrite(t, p, rr("\x01a\x00", ns, in, 5, "\x01b\x00"), bytesOf("\xc0\x00", ns, in, 5, "\xc0\x0d"))
		checkWrite(t, p, rr("\x01c\x00", ns, in, 5, "\x01c\x00"), bytesOf("\x01c\x00", ns, in, 5, "\x01c\x00"))
	}
}

// P11.3

// put is a record and where it was written.
type put struct {
	r        api.RR
	at, next int
}

func checkReadBack(t *testing.T, msg string, puts []put) {
	t.Helper()
	for _, x := range puts {
		checkRead(t, msg, x.at, x.r, x.next, api.OK)
		checkRead(t, msg[:x.next], x.at, x.r, x.next, api.OK)
		checkNone(t, msg[:x.next-1], x.at)
	}
}

func TestEachRecordIsReadBack(t *testing.T) {
	for _, first := range []string{"", "\x00", "xyz", pad(limit - 300), pad(70000)} {
		p := pack.New()
		p.Raw(first)
		var puts []put
		for _, class := range classes {
			for _, typ := range append(unlisted, listed...) {
				for i, data := range append(valid(typ), "") {
					r := rr([]string{"\x00", "\x01a\x00", "\x02nS\x01A\x00", longest}[i%4], typ, class, i, data)
					if !modelRight(r) {
						continue
					}
					at := p.Len()
					if e := record.Write(p, r); e != api.OK {
						t.Errorf("Write(%s) = %v", told(r), e)
					}
					puts = append(puts, put{r, at, p.Len()})
				}
			}
		}
		checkReadBack(t, p.Bytes(), puts)
	}
}

func TestRandomWrites(t *testing.T) {
	r := rand.New(rand.NewSource(112))
	for range 2000 {
		p, h := pack.New(), history{}
		if r.Intn(3) == 0 {
			s := pad(limit - r.Intn(300))
			p.Raw(s)
			h.raw(s)
		}
		var puts []put
		for range r.Intn(12) {
			x := randomRecord(r)
			switch r.Intn(6) {
			case 0:
				x.Data = changed(r, x.Data)
			case 1:
				x.Name = changed(r, x.Name)
			}
			at := p.Len()
			want := h.write(x)
			if e := record.Write(p, x); e != want {
				t.Errorf("Write(%s) = %v; want %v", told(x), e, want)
			}
			if want == api.OK {
				puts = append(puts, put{x, at, p.Len()})
			}
			if r.Intn(4) == 0 {
				n := randomName(r)
				p.Name(n, true)
				h.name(n, true)
			}
		}
		checkBytes(t, p, h.bytes())
		checkReadBack(t, p.Bytes(), puts)
	}
}

// varied is a record that often differs from others in one field only.
func varied(r *rand.Rand) api.RR {
	names := []string{"\x00", "\x01a\x00", "\x01A\x00", "\x01b\x00", "\x01a\x01a\x00", "\x01B\x01A\x00", "\x01\xff\x00", "\x02aa\x00"}
	data := []string{"", "\x00", "\x01a\x00", "\x01A\x00", "\x01b\x00", "\x01A\x01b\x00", "abcd", "ABCD", "\x01A", "\x01a", "12\x01a\x00", "12\x01A\x00", "\xff", "\x80"}
	return rr(names[r.Intn(len(names))], pickOf(r, []int{a, ns, mx, txt, 99}), pickOf(r, []int{in, none, anyClass}), r.Intn(3), data[r.Intn(len(data))])
}

// checkAsModel compares what takes records with the model.
func checkAsModel(t *testing.T, r, s api.RR) {
	t.Helper()
	checkRight(t, r, modelRight(r))
	checkSaid(t, r, modelSaid(r))
	checkOrder(t, r, s, modelCompare(r, s), modelOne(r, s))
}

func TestRandomPairs(t *testing.T) {
	r := rand.New(rand.NewSource(113))
	for range 30000 {
		x, y := varied(r), varied(r)
		if r.Intn(2) == 0 { // so that only one field differs
			z := y
			y = x
			switch r.Intn(4) {
			case 0:
				y.Name = z.Name
			case 1:
				y.Type = z.Type
			case 2:
				y.Class = z.Class
			case 3:
				y.Data = z.Data
			}
		}
		if r.Intn(10) == 0 {
			x.Name = wrongNames[r.Intn(len(wrongNames))]
		}
		checkAsModel(t, x, y)
		checkAsModel(t, randomRecord(r), randomRecord(r))
	}
}

func TestTheOrderIsTotal(t *testing.T) {
	r := rand.New(rand.NewSource(114))
	var l []api.RR
	for _, group := range ordered {
		l = append(l, group...)
	}
	for range 150 {
		l = append(l, varied(r), randomRecord(r))
	}
	order := make([][]int, len(l))
	for i, x := range l {
		for j, y := range l {
			order[i] = append(order[i], record.Compare(x, y))
			if one := record.One(x, y); one != (order[i][j] == 0) {
				t.Errorf("Compare(%s, %s) = %d, but One is %v", told(x), told(y), order[i][j], one)
			}
		}
	}
	for i, x := range l {
		for j, y := range l {
			if order[i][j] != -order[j][i] {
				t.Errorf("Compare(%s, %s) = %d, and back %d", told(x), told(y), order[i][j], order[j][i])
			}
			for k, z := range l {
				if order[i][j] <= 0 && order[j][k] <= 0 && order[i][k] > 0 {
					t.Errorf("%s is not after %s, nor that after %s, but the first is after the third", told(x), told(y), told(z))
				}
			}
		}
	}
}

// R4, R5, R7

func TestTwoPackersAtOnce(t *testing.T) {
	p, q := pack.New(), pack.New()
	r := rr("\x01a\x00", ns, in, 5, "\x01b\x00")
	checkWrite(t, p, r, bytesOf("\x01a\x00", ns, in, 5, "\x01b\x00"))
	checkBytes(t, q, "")
	q.Raw("x")
	checkWrite(t, q, rr("\x01b\x00", mx, in, 5, "12\x01a\x00"), bytesOf("\x01b\x00", mx, in, 5, "12\x01a\x00"))
	checkWrite(t, p, r, bytesOf("\xc0\x00", ns, in, 5, "\xc0\x0d"))
	checkWrite(t, q, r, bytesOf("\xc0\x10", ns, in, 5, "\xc0\x01"))
}

func TestBytesDoNotChangeAfterwards(t *testing.T) {
	p := pack.New()
	record.Write(p, rr("\x01a\x00", a, in, 5, "abcd"))
	b := p.Bytes()
	record.Write(p, rr("\x01a\x00", ns, in, 5, "\x01b\x00"))
	if b != bytesOf("\x01a\x00", a, in, 5, "abcd") {
		t.Errorf("the bytes are %q", b)
	}
}

func TestCallsDoNotDependOnEarlierOnes(t *testing.T) {
	for range 3 {
		p := pack.New()
		checkWrite(t, p, rr("\x01a\x00", ns, in, 5, "\x01b\x01a\x00"), bytesOf("\x01a\x00", ns, in, 5, "\x01b\xc0\x00"))
		checkNoWrite(t, p, rr("\x01a\x00", ns, in, 5, "\x01b"))
		checkNone(t, "\x00\x00\x01\x00\x01\x00\x00\x00\x05\x00\x03abc", 0)
		checkRecord(t, "\x00\x00\x01\x00\x01\x00\x00\x00\x05\x00\x04abcd", 0, rr("\x00", a, in, 5, "abcd"))
		checkRight(t, rr("\x00", a, in, 5, "abcd"), true)
		checkRight(t, rr("\x00", a, in, 5, "abc"), false)
		checkSaid(t, rr("\x00", ns, in, 5, "\x01A\x00"), "\x01a\x00")
		checkOrder(t, rr("\x00", a, in, 5, "abcd"), rr("\x00", a, in, 5, "abce"), -1, false)
	}
}
