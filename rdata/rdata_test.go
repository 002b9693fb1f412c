package rdata_test

import (
	"fmt"
	"math"
	"math/rand"
	"strings"
	"testing"

	"beadroll/api"
	"beadroll/pack"
	"beadroll/rdata"
)

// limit is the first offset to which no pointer can lead.
const limit = 0x4000

// longest is a name of MaxName bytes; tooLong has one byte more, and is otherwise a name.
var (
	longest = wire(strings.Repeat("a", 63), strings.Repeat("B", 63), strings.Repeat("c", 63), strings.Repeat("d", 61))
	tooLong = wire(strings.Repeat("a", 63), strings.Repeat("B", 63), strings.Repeat("c", 63), strings.Repeat("d", 62))
)

// numbers are those of an SOA, all of bytes that look like capital letters.
const numbers = "ABCDEFGHIJKLMNOPQRST"

var (
	listed = []int{a, ns, cname, soa, ptr, mx, txt, aaaa, srv}
	named  = []int{ns, cname, soa, ptr, mx, srv}
)

// others are types that are not in the list; some of them have a listed type as their lowest bytes, or as their opposite.
var others = []int{0, -1, -2, -3, -4, -5, -6, -15, -16, -33, 3, 4, 7, 8, 13, 14, 17, 27, 29, 32, 34, 99, 251, 252, 255, 256, 256 + 1, 256 + 6, 65535, 65536, 65536 + 2, 65536 + 15, 1<<32 + 1, 1<<32 + 16, math.MaxInt32, math.MinInt32, math.MaxInt, math.MinInt}

// samples are data that is valid for a listed type.
func samples(typ int) []string {
	var l []string
	switch typ {
	case a:
		return []string{"abcd", "\x00\x00\x00\x00", "\xff\xff\xff\xff", "\x01A\x00\x00"}
	case aaaa:
		return []string{"0123456789abcdef", strings.Repeat("\x00", 16), "ABCDEFGHIJKLMNOP"}
	case txt:
		return []string{"\x00", "\x01a", "\x00\x00", "\x01a\x02bc", "\x03abc\x00\x01d", "\xff" + strings.Repeat("x", 255), "\x01A\x02BC"}
	}
	for _, n := range []string{"\x00", "\x01a\x00", "\x01A\x02bC\x00", "\x03www\x02ex\x00", longest} {
		switch typ {
		case soa:
			l = append(l, n+"\x00"+numbers, "\x00"+n+numbers, n+"\x01r"+"\x00"+strings.Repeat("\x00", 20), n+n+strings.Repeat("\xff", 20))
		default:
			l = append(l, numbers[:before(typ)]+n, strings.Repeat("\x00", before(typ))+n, strings.Repeat("\xff", before(typ))+n)
		}
	}
	return l
}

func wire(labels ...string) string {
	n := ""
	for _, l := range labels {
		n += string([]byte{byte(len(l))}) + l
	}
	return n + "\x00"
}

// pointer is the two bytes of a pointer to an offset.
func pointer(to int) string {
	return string([]byte{byte(0xc0 + to/256), byte(to % 256)})
}

func pad(size int) string {
	return strings.Repeat("\xee", size)
}

// texts are pieces of size bytes together, each as long as it can be.
func texts(size int) string {
	s := ""
	for size > 0 {
		n := min(size, 256)
		s += string([]byte{byte(n - 1)}) + strings.Repeat("T", n-1)
		size -= n
	}
	return s
}

// brief is s for a message, without most of a long text.
func brief(s string) string {
	if len(s) > 60 {
		return fmt.Sprintf("%q.. (%d bytes)", s[:60], len(s))
	}
	return fmt.Sprintf("%q", s)
}

func checkRight(t *testing.T, typ int, data string, want bool) {
	t.Helper()
	if got := rdata.Right(typ, data); got != want {
		t.Errorf("Right(%d, %s) = %v", typ, brief(data), got)
	}
}

func checkFold(t *testing.T, typ int, data, want string) {
	t.Helper()
	if got := rdata.Fold(typ, data); got != want {
		t.Errorf("Fold(%d, %s) = %s; want %s", typ, brief(data), brief(got), brief(want))
	}
}

func checkRead(t *testing.T, msg string, at, size, typ int, want string, wantE api.Errno) {
	t.Helper()
	if d, e := rdata.Read(msg, at, size, typ); d != want || e != wantE {
		t.Errorf("Read(%s, %d, %d, %d) = %s, %v; want %s, %v", brief(msg), at, size, typ, brief(d), e, brief(want), wantE)
	}
}

// checkData reads what follows an offset.
func checkData(t *testing.T, msg string, at, typ int, want string) {
	t.Helper()
	checkRead(t, msg, at, len(msg)-at, typ, want, api.OK)
	checkRead(t, msg+"\x01z\x00", at, len(msg)-at, typ, want, api.OK)
}

// checkNone reads what follows an offset.
func checkNone(t *testing.T, msg string, at, typ int) {
	t.Helper()
	checkRead(t, msg, at, len(msg)-at, typ, "", api.ErrForm)
}

func checkBytes(t *testing.T, p *pack.Packer, want string) {
	t.Helper()
	if b := p.Bytes(); b != want || p.Len() != len(want) {
		t.Errorf("the message is %s, of %d bytes; want %s", brief(b), p.Len(), brief(want))
	}
}

// checkWrite writes data, and checks what it appended and that it is read back.
func checkWrite(t *testing.T, p *pack.Packer, typ int, data, appended string) {
	t.Helper()
	msg := p.Bytes()
	if e := rdata.Write(p, typ, data); e != api.OK {
		t.Errorf("Write(%d, %s) = %v", typ, brief(data), e)
	}
	checkBytes(t, p, msg+appended)
	checkData(t, p.Bytes(), len(msg), typ, data)
}

func checkNoWrite(t *testing.T, p *pack.Packer, typ int, data string) {
	t.Helper()
	msg := p.Bytes()
	if e := rdata.Write(p, typ, data); e != api.ErrForm {
		t.Errorf("Write(%d, %s) = %v", typ, brief(data), e)
	}
	checkBytes(t, p, msg)
}

func checkSoa(t *testing.T, data string, want rdata.SOA) {
	t.Helper()
	if s, e := rdata.Soa(data); s != want || e != api.OK {
		t.Errorf("Soa(%s) = %v, %v; want %v", brief(data), s, e, want)
	}
	if d, e := rdata.Data(want); d != data || e != api.OK {
		t.Errorf("Data(%v) = %s, %v; want %s", want, brief(d), e, brief(data))
	}
}

func checkNoSoa(t *testing.T, data string) {
	t.Helper()
	if s, e := rdata.Soa(data); s != (rdata.SOA{}) || e != api.ErrForm {
		t.Errorf("Soa(%s) = %v, %v", brief(data), s, e)
	}
}

// checkValid checks data that is valid, and has this folded form.
func checkValid(t *testing.T, typ int, data, folded string) {
	t.Helper()
	checkRight(t, typ, data, true)
	checkFold(t, typ, data, folded)
	checkData(t, data, 0, typ, data)
	checkData(t, "\x01q\x00"+data, 3, typ, data)
}

// checkInvalid checks data that is not valid, whether or not it can be read in a message.
func checkInvalid(t *testing.T, typ int, data string) {
	t.Helper()
	checkRight(t, typ, data, false)
	checkFold(t, typ, data, "")
	checkNoWrite(t, pack.New(), typ, data)
	if typ == soa {
		checkNoSoa(t, data)
	}
}

// checkWrong checks data that is not valid, and can't be read either.
func checkWrong(t *testing.T, typ int, data string) {
	t.Helper()
	checkInvalid(t, typ, data)
	checkNone(t, data, 0, typ)
	checkNone(t, "\x01q\x00"+data, 3, typ)
}

// P10.1

func TestEachTypesData(t *testing.T) {
	checkValid(t, 1, "\x0a\x00\x00\x01", "\x0a\x00\x00\x01")
	checkValid(t, 2, "\x02nS\x01a\x00", "\x02ns\x01a\x00")
	checkValid(t, 5, "\x02nS\x01a\x00", "\x02ns\x01a\x00")
	checkValid(t, 6, "\x01M\x00\x01R\x01a\x00"+numbers, "\x01m\x00\x01r\x01a\x00"+numbers)
	checkValid(t, 12, "\x02nS\x01a\x00", "\x02ns\x01a\x00")
	checkValid(t, 15, "\x00\x0a\x01a\x00", "\x00\x0a\x01a\x00")
	checkValid(t, 16, "\x02Hi\x00", "\x02Hi\x00")
	checkValid(t, 28, "\x20\x01\x0d\xb8\x00\x00\x00\x00\x00\x00\x00\x00\x00\x00\x00\x01", "\x20\x01\x0d\xb8\x00\x00\x00\x00\x00\x00\x00\x00\x00\x00\x00\x01")
	checkValid(t, 33, "\x00\x01\x00\x02\x00\x03\x02nS\x01a\x00", "\x00\x01\x00\x02\x00\x03\x02ns\x01a\x00")
	checkValid(t, 99, "\x02Hi", "\x02Hi")
}

func TestDataOfOneByteLessAndOneByteMore(t *testing.T) {
	for _, typ := range listed {
		for _, data := range samples(typ) {
			checkRight(t, typ, data, true)
			for _, more := range []string{"x", "\xc0", "\xff"} {
				checkWrong(t, typ, data+more)
			}
			if typ != txt {
				checkWrong(t, typ, data+"\x00")
				checkWrong(t, typ, data[:len(data)-1])
			}
		}
	}
}

func TestDataOfNoBytes(t *testing.T) {
	for _, typ := range listed {
		checkWrong(t, typ, "")
	}
	for _, typ := range others {
		checkValid(t, typ, "", "")
	}
}

func TestTypesThatAreNotInTheList(t *testing.T) {
	for _, typ := range others {
		for _, data := range []string{"\x00", "\x01", "A", "abcd", "\xc0", "\xc0\x00", "\x01A\x00", "\x02A", "0123456789ABCDEF", longest, tooLong, tooLong + "\xff", strings.Repeat("\xff", 1000)} {
			checkValid(t, typ, data, data)
			checkWrite(t, pack.New(), typ, data, data)
		}
	}
}

func TestEachSizeOfAAndAAAA(t *testing.T) {
	for size := range 300 {
		data := strings.Repeat("A", size)
		for _, typ := range []int{a, aaaa} {
			if typ == a && size == 4 || typ == aaaa && size == 16 {
				checkValid(t, typ, data, data)
			} else {
				checkWrong(t, typ, data)
			}
		}
	}
}

// wrongNames are no names, and not the bytes of names in a message.
var wrongNames = []string{
	"",
	"\x01",
	"\x01a",
	"\x02a\x00",
	"\x01a\x01",
	"\x01a\x02b\x00",
	"\x00\x00",
	"\x00a",
	"\x01a\x00\x00",
	"\x01a\x00\x01b\x00",
	"\x40" + strings.Repeat("a", 64) + "\x00",
	"\x01a\x40" + strings.Repeat("a", 64) + "\x00",
	"\x80\x00",
	"\xbf\x00",
	"\xc0",
	"\xff\xff",
	tooLong,
	tooLong[:len(tooLong)-1],
	longest[:len(longest)-1],
	longest + "\x00",
	strings.Repeat("\x01a", 127),
	strings.Repeat("\x01a", 128) + "\x00",
	strings.Repeat("\x01a", 30000) + "\x00",
}

func TestDataWithWrongNames(t *testing.T) {
	for _, typ := range named {
		for _, n := range wrongNames {
			if typ == soa {
				if n != "\x00\x00" && n != "\x01a\x00\x00" && n != "\x01a\x00\x01b\x00" && n != longest+"\x00" { // these are two names
					checkWrong(t, soa, n+numbers)
				}
				checkWrong(t, soa, "\x01a\x00"+n+numbers)
				checkWrong(t, soa, n+"\x01b\x01c\x00"+numbers)
				continue
			}
			checkWrong(t, typ, numbers[:before(typ)]+n)
			checkWrong(t, typ, strings.Repeat("\x00", before(typ))+n)
		}
	}
}

func TestDataWithAPointerIsNotValid(t *testing.T) {
	for _, n := range []string{"\xc0\x00", "\xc0\x01", "\xc0\x02", "\x01a\xc0\x00", "\x01a\xc0\x01", "\x01a\xc0\x02", "\x01a\x01b\xc0\x00", "\xc0\x00\x00", "\x01a\xc0\x00\x00"} {
		for _, typ := range []int{ns, cname, ptr} {
			checkInvalid(t, typ, n)
		}
		for _, first := range []string{"\x00\x00", "\x00\x01", "\x01\x00", "\x01a"} {
			checkInvalid(t, mx, first+n)
			checkInvalid(t, srv, first+"\x00\x00\x00\x00"+n)
			checkInvalid(t, srv, "\x00\x00\x00\x00"+first+n)
		}
		for _, other := range []string{"\x00", "\x01b\x00", "\x01b\x01c\x00"} {
			checkInvalid(t, soa, other+n+numbers)
			checkInvalid(t, soa, n+other+numbers)
		}
	}
	checkInvalid(t, soa, "\xc0\x00\xc0\x02"+numbers)
	checkInvalid(t, soa, "\x01a\x00\xc0\x00"+numbers)
	// As long without its pointer as with it.
	checkInvalid(t, soa, "\x01a\x00\x01b\xc0\x02"+numbers)
	checkData(t, "\x01a\x00\x01b\xc0\x02"+numbers, 0, soa, "\x01a\x00\x01b\x00"+numbers)
	// The first byte of a pointer to the root is the only difference here.
	checkInvalid(t, mx, "\x00\x00\xc0\x00")
	checkData(t, "\x00\x00\xc0\x00", 0, mx, "\x00\x00\x00")
}

func TestDataOfMX(t *testing.T) {
	checkValid(t, mx, "\x00\x00\x00", "\x00\x00\x00")
	checkValid(t, mx, "\xff\xff\x01A\x01b\x00", "\xff\xff\x01a\x01b\x00")
	checkValid(t, mx, "AB"+longest, "AB"+strings.ToLower(longest))
	for _, data := range []string{"\x00", "\x00\x0a", "\x00\x01a", "\x00\x01a\x00", "\x02ab\x00", "\x00\x0a\x01", "\x00\x0a\x01a", "\x00\x0a\x01a\x00\x00", "\x00\x0a\x00\x01a\x00", "\x00\x00\x0a\x01a\x00"} {
		checkWrong(t, mx, data)
	}
	checkWrong(t, mx, "AB"+tooLong)
}

func TestDataOfSRV(t *testing.T) {
	checkValid(t, srv, "\x00\x00\x00\x00\x00\x00\x00", "\x00\x00\x00\x00\x00\x00\x00")
	checkValid(t, srv, "ABCDEF\x01A\x01b\x00", "ABCDEF\x01a\x01b\x00")
	checkValid(t, srv, "\x01A\x00\x01B\x00\x01C\x00", "\x01A\x00\x01B\x00\x01c\x00")
	checkValid(t, srv, "ABCDEF"+longest, "ABCDEF"+strings.ToLower(longest))
	for size := range 7 {
		checkWrong(t, srv, "123456"[:size])
		if size < 6 {
			checkWrong(t, srv, "123456"[:size]+"\x07abcdefg\x00")
		}
	}
	for _, n := range []string{"\x01", "\x01a", "\x01a\x00\x00", "\x00\x01a\x00", "\xc0\x06", "\xc0\x00", tooLong} {
		checkWrong(t, srv, "123456"+n)
		checkWrong(t, srv, "\x00\x00\x00\x00\x00\x00"+n)
	}
}

func TestDataOfSOA(t *testing.T) {
	checkValid(t, soa, "\x00\x00"+numbers, "\x00\x00"+numbers)
	checkValid(t, soa, "\x01A\x00\x01B\x00"+numbers, "\x01a\x00\x01b\x00"+numbers)
	checkValid(t, soa, "\x00\x01B\x00"+numbers, "\x00\x01b\x00"+numbers)
	checkValid(t, soa, "\x01A\x00\x00"+numbers, "\x01a\x00\x00"+numbers)
	checkValid(t, soa, longest+longest+numbers, strings.ToLower(longest+longest)+numbers)
	for size := range 20 {
		checkWrong(t, soa, "\x01m\x00\x01r\x00"+numbers[:size])
		checkWrong(t, soa, "\x01m\x00\x01r\x00"+strings.Repeat("\x00", size))
	}
	for size := 1; size < 20; size++ {
		checkWrong(t, soa, "\x01m\x00\x01r\x00"+numbers+numbers[:size])
		checkWrong(t, soa, "\x01m\x00\x01r\x00"+numbers+strings.Repeat("\x00", size))
	}
	for _, n := range []string{"\x00", "\x01m\x00", longest} {
		checkWrong(t, soa, n)
		checkWrong(t, soa, n+numbers)
		checkWrong(t, soa, n+n)
		checkWrong(t, soa, n+n+n+numbers)
		checkWrong(t, soa, n+numbers+n)
		checkWrong(t, soa, numbers+n+n)
		checkWrong(t, soa, n+tooLong+numbers)
		checkWrong(t, soa, tooLong+n+numbers)
	}
	checkWrong(t, soa, numbers)
}

func TestDataOfTXT(t *testing.T) {
	x255 := strings.Repeat("X", 255)
	for _, data := range []string{"\x00", "\x00\x00", "\x00\x00\x00\x00\x00", "\x01a", "\x01A\x02Bc", "\x02\x00\x00", "\x03abc\x00", "\x00\x03abc", "\xff" + x255, "\xff" + x255 + "\xff" + x255, "\xc0" + x255[:192], "\x02\xc0\x00"} {
		checkValid(t, txt, data, data)
	}
	for _, data := range []string{"", "\x01", "\x02a", "\x01a\x01", "\x01a\x02b", "\x00\x01", "\x01ab", "\x01a\x00b", "\xff" + x255[:254], "\xff" + x255 + "X", "\xff" + x255 + "\xff" + x255[:254], "\xc0\x00"} {
		checkWrong(t, txt, data)
	}
	for size := range 256 {
		piece := string([]byte{byte(size)}) + x255[:size]
		checkValid(t, txt, piece, piece)
		checkValid(t, txt, "\x01A"+piece, "\x01A"+piece)
		if size > 0 {
			checkWrong(t, txt, piece[:size])
			checkWrong(t, txt, "\x01A"+piece[:size])
		}
	}
}

func TestDataOfMaxDataBytes(t *testing.T) {
	for _, size := range []int{1, 256, 257, maxData - 1, maxData, maxData + 1, maxData + 2, 2 * maxData, 100000} {
		check := checkWrong
		if size <= maxData {
			check = func(t *testing.T, typ int, data string) {
				t.Helper()
				checkValid(t, typ, data, data)
				checkWrite(t, pack.New(), typ, data, data)
			}
		}
		check(t, txt, texts(size))
		check(t, txt, strings.Repeat("\x00", size))
		for _, typ := range others {
			check(t, typ, strings.Repeat("A", size))
			check(t, typ, strings.Repeat("\x00", size))
		}
	}
	for _, typ := range []int{a, ns, soa, mx, aaaa, srv} {
		checkWrong(t, typ, strings.Repeat("\x00", maxData))
		checkWrong(t, typ, strings.Repeat("\x00", maxData+1))
	}
}

func TestFoldOfEachByteOfAName(t *testing.T) {
	for c := range 256 {
		b := string([]byte{byte(c)})
		low := b
		if 'A' <= c && c <= 'Z' {
			low = string([]byte{byte(c + 32)})
		}
		n, folded := "\x01"+b+"\x02x"+b+"\x00", "\x01"+low+"\x02x"+low+"\x00"
		checkFold(t, ns, n, folded)
		checkFold(t, cname, n, folded)
		checkFold(t, ptr, n, folded)
		checkFold(t, mx, b+b+n, b+b+folded)
		checkFold(t, srv, strings.Repeat(b, 6)+n, strings.Repeat(b, 6)+folded)
		checkFold(t, soa, n+n+strings.Repeat(b, 20), folded+folded+strings.Repeat(b, 20))
		checkFold(t, a, b+b+b+b, b+b+b+b)
		checkFold(t, aaaa, strings.Repeat(b, 16), strings.Repeat(b, 16))
		checkFold(t, txt, n[:5]+"\x02"+b+b, n[:5]+"\x02"+b+b)
		checkFold(t, 99, n, n)
	}
}

// Lengths and numbers may look like the labels of a name.
func TestFoldBesideWhatLooksLikeNames(t *testing.T) {
	checkFold(t, mx, "\x01A\x01B\x00", "\x01A\x01b\x00")
	checkFold(t, srv, "\x01A\x01B\x01C\x01D\x00", "\x01A\x01B\x01C\x01d\x00")
	checkFold(t, soa, "\x00\x01A\x00\x01B\x00\x01C\x00\x01D\x00\x01E\x00\x01F\x00\x01GA", "")
	checkFold(t, soa, "\x00\x01A\x00\x01B\x00\x01C\x00\x01D\x00\x01E\x00\x01F\x00\x01G\x00AB", "\x00\x01a\x00\x01B\x00\x01C\x00\x01D\x00\x01E\x00\x01F\x00\x01G\x00AB")
	checkFold(t, a, "\x01A\x00\x00", "\x01A\x00\x00")
	checkFold(t, txt, "\x01A\x00", "\x01A\x00")
	checkFold(t, 0, "\x01A\x00", "\x01A\x00")
	checkFold(t, -1, "\x01A\x00", "\x01A\x00")
}

func TestFoldOfFolded(t *testing.T) {
	for _, typ := range listed {
		for _, data := range samples(typ) {
			folded := rdata.Fold(typ, data)
			checkRight(t, typ, folded, true)
			checkFold(t, typ, folded, folded)
			if len(folded) != len(data) || folded == "" {
				t.Errorf("Fold(%d, %s) = %s", typ, brief(data), brief(folded))
			}
		}
	}
}

func TestSoaAndData(t *testing.T) {
	checkSoa(t, "\x01a\x00\x00\x00\x00\x00\x07\x00\x00\x00\x01\x00\x00\x00\x02\x00\x00\x00\x03\x80\x00\x00\x00", rdata.SOA{M: "\x01a\x00", R: "\x00", Serial: 7, Refresh: 1, Retry: 2, Expire: 3, Minimum: 1 << 31})
	checkSoa(t, "\x01M\x01a\x00\x01r\x01A\x00\x01\x02\x03\x04\x05\x06\x07\x08\x09\x0a\x0b\x0c\x0d\x0e\x0f\x10\x11\x12\x13\x14", rdata.SOA{M: "\x01M\x01a\x00", R: "\x01r\x01A\x00", Serial: 0x01020304, Refresh: 0x05060708, Retry: 0x090a0b0c, Expire: 0x0d0e0f10, Minimum: 0x11121314})
	checkSoa(t, "\x00\x00"+strings.Repeat("\x00", 20), rdata.SOA{M: "\x00", R: "\x00"})
	top := uint32(math.MaxUint32)
	checkSoa(t, "\x00\x01r\x00"+strings.Repeat("\xff", 20), rdata.SOA{M: "\x00", R: "\x01r\x00", Serial: top, Refresh: top, Retry: top, Expire: top, Minimum: top})
	checkSoa(t, longest+longest+strings.Repeat("\x00", 20), rdata.SOA{M: longest, R: longest})
}

func TestSoaAndDataOfEachNumber(t *testing.T) {
	for _, n := range []uint32{0, 1, 255, 256, 65535, 65536, 1<<24 - 1, 1 << 24, 1<<31 - 1, 1 << 31, 1<<32 - 2, 1<<32 - 1} {
		b := string([]byte{byte(n >> 24), byte(n >> 16), byte(n >> 8), byte(n)})
		for i := range 5 {
			s := rdata.SOA{M: "\x01m\x00", R: "\x01r\x00"}
			*[]*uint32{&s.Serial, &s.Refresh, &s.Retry, &s.Expire, &s.Minimum}[i] = n
			checkSoa(t, "\x01m\x00\x01r\x00"+strings.Repeat("\x00", 4*i)+b+strings.Repeat("\x00", 16-4*i), s)
		}
	}
}

func TestSoaOfWhatIsNotValid(t *testing.T) {
	for _, data := range []string{"", "x", "\x00", "\x00\x00", numbers, "\x00" + numbers, "\x00\x00" + numbers[1:], "\x00\x00" + numbers + "\x00", "\x00\x00\x00" + numbers, "\x01m\x00\xc0\x00" + numbers, "\xc0\x00\x01r\x00" + numbers, "\x01m\x00" + tooLong + numbers, tooLong + "\x01r\x00" + numbers} {
		checkNoSoa(t, data)
	}
}

func TestDataOfWhatIsNoName(t *testing.T) {
	for _, n := range append([]string{"\xc0\x00", "\x01a\xc0\x00"}, wrongNames...) {
		for _, s := range []rdata.SOA{{M: n, R: "\x01r\x00"}, {M: "\x01m\x00", R: n}, {M: n, R: n}, {M: n, R: "\x00", Serial: 7, Refresh: 1, Retry: 2, Expire: 3, Minimum: 4}} {
			if d, e := rdata.Data(s); d != "" || e != api.ErrForm {
				t.Errorf("Data(%s, %s) = %s, %v", brief(s.M), brief(s.R), brief(d), e)
			}
		}
	}
	// One name after the other is two names, but not in a field.
	if d, e := rdata.Data(rdata.SOA{M: "\x01m\x00\x01r\x00"}); d != "" || e != api.ErrForm {
		t.Errorf("Data = %s, %v", brief(d), e)
	}
}

func TestRandomSoas(t *testing.T) {
	r := rand.New(rand.NewSource(101))
	for range 3000 {
		s := rdata.SOA{M: randomName(r), R: randomName(r), Serial: r.Uint32(), Refresh: r.Uint32(), Retry: r.Uint32(), Expire: r.Uint32(), Minimum: r.Uint32()}
		d, e := rdata.Data(s)
		if e != api.OK || len(d) != len(s.M)+len(s.R)+20 {
			t.Errorf("Data(%v) = %s, %v", s, brief(d), e)
		}
		checkSoa(t, d, s)
		checkRight(t, soa, d, true)
	}
}

// every calls f with each string of these bytes that has at most size bytes.
func every(alphabet string, size int, f func(string)) {
	all := []string{""}
	for len(all[0]) <= size {
		var longer []string
		for _, s := range all {
			f(s)
			for i := range len(alphabet) {
				longer = append(longer, s+alphabet[i:i+1])
			}
		}
		all = longer
	}
}

// checkAsModel compares what takes data with the model.
func checkAsModel(t *testing.T, typ int, data string) {
	t.Helper()
	checkRight(t, typ, data, modelRight(typ, data))
	checkFold(t, typ, data, modelFold(typ, data))
	p, m := pack.New(), pack.New()
	p.Name("\x01A\x00", true)
	m.Name("\x01A\x00", true)
	if e, want := rdata.Write(p, typ, data), modelWrite(m, typ, data); e != want {
		t.Errorf("Write(%d, %s) = %v; want %v", typ, brief(data), e, want)
	}
	checkBytes(t, p, m.Bytes())
	d, e := modelRead(data, 0, len(data), typ)
	checkRead(t, data, 0, len(data), typ, d, e)
}

func TestEveryShortData(t *testing.T) {
	every("\x00\x01\x02A\xc0", 5, func(data string) {
		for _, typ := range append([]int{0, -1, 99}, listed...) {
			checkAsModel(t, typ, data)
		}
		checkAsModel(t, mx, "A\x01"+data)
		checkAsModel(t, srv, "\x00A\x01A\x01"+data)
		checkAsModel(t, srv, "\x00A\x01A\x01A"+data)
		checkAsModel(t, soa, data+numbers)
		checkAsModel(t, soa, data+"\x00A\x01A\x00\x01A\x00A\x01A\x00\x01A\x00A\x01A\x00\x01")
		checkAsModel(t, aaaa, "0123456789a"+data)
	})
}

func TestRandomDataAsModel(t *testing.T) {
	r := rand.New(rand.NewSource(102))
	for range 30000 {
		typ := randomType(r)
		checkAsModel(t, typ, changed(r, randomData(r, typ)))
	}
}

// P10.2

func TestReadOutsideOfTheMessage(t *testing.T) {
	for _, typ := range append([]int{0, -1, 99}, listed...) {
		for _, msg := range []string{"", "\x00", "abcd", "\x01a\x00\xc0\x00"} {
			size := len(msg)
			for _, at := range []int{-1, -2, -size, -size - 1, math.MinInt + 1, math.MinInt} {
				if at == 0 {
					continue
				}
				for _, n := range []int{0, 1, -at, size - at, size, math.MaxInt, -1, math.MinInt} {
					checkRead(t, msg, at, n, typ, "", api.ErrArg)
				}
			}
			for at := range size + 1 {
				for _, n := range []int{-1, -2, -at - 1, -size - 1, math.MinInt, size - at + 1, size - at + 2, size - at + 1000, math.MaxInt - at, math.MaxInt - at + 1, math.MaxInt - 1, math.MaxInt} {
					if n < 0 || n > size-at {
						checkRead(t, msg, at, n, typ, "", api.ErrArg)
					}
				}
			}
			for _, at := range []int{size + 1, size + 2, size + 1000, math.MaxInt - 1, math.MaxInt} {
				for _, n := range []int{0, 1, 2, size, -1, -2, size - at, -at, math.MaxInt - 1, math.MaxInt, math.MinInt} {
					checkRead(t, msg, at, n, typ, "", api.ErrArg)
				}
			}
		}
	}
}

func TestReadAtTheEndOfTheMessage(t *testing.T) {
	for _, msg := range []string{"", "\x00", "\x01a\x00"} {
		for _, typ := range listed {
			checkRead(t, msg, len(msg), 0, typ, "", api.ErrForm)
			checkRead(t, msg, len(msg), 1, typ, "", api.ErrArg)
			checkRead(t, msg+"\x00", len(msg), 0, typ, "", api.ErrForm)
		}
		for _, typ := range others {
			checkRead(t, msg, len(msg), 0, typ, "", api.OK)
			checkRead(t, msg, len(msg), 1, typ, "", api.ErrArg)
			checkRead(t, msg+"\x00", len(msg), 0, typ, "", api.OK)
			checkRead(t, msg+"\x00", len(msg), 1, typ, "\x00", api.OK)
		}
	}
}

// The bytes after the data would let more of it be read, and the sum of at and size is len(msg) in the last reading.
func TestReadOfASizeOneLessAndOneMore(t *testing.T) {
	for _, typ := range listed {
		for _, data := range samples(typ) {
			for _, first := range []string{"", "\x00", "\x01q\x00"} {
				for _, last := range []string{"x", "\xc0", "\xff", "\x01x\x00", "\x00"} {
					msg := first + data + last
					checkRead(t, msg, len(first), len(data), typ, data, api.OK)
					if typ == txt {
						continue
					}
					checkRead(t, msg, len(first), len(data)-1, typ, "", api.ErrForm)
					checkRead(t, msg, len(first), len(data)+1, typ, "", api.ErrForm)
				}
			}
		}
	}
	msg := "\x01q\x00" + "\x01a\x02bc" + "\x00"
	checkRead(t, msg, 3, 0, txt, "", api.ErrForm)
	checkRead(t, msg, 3, 1, txt, "", api.ErrForm)
	checkRead(t, msg, 3, 2, txt, "\x01a", api.OK)
	checkRead(t, msg, 3, 3, txt, "", api.ErrForm)
	checkRead(t, msg, 3, 4, txt, "", api.ErrForm)
	checkRead(t, msg, 3, 5, txt, "\x01a\x02bc", api.OK)
	checkRead(t, msg, 3, 6, txt, "\x01a\x02bc\x00", api.OK)
	checkRead(t, msg, 3, 7, txt, "", api.ErrArg)
	for size := range len(msg) - 2 {
		checkRead(t, msg, 3, size, 99, msg[3:3+size], api.OK)
	}
}

func TestReadOfPointersToBefore(t *testing.T) {
	msg := "\x03www\x02Ex\x00"
	for _, typ := range []int{ns, cname, ptr} {
		checkData(t, msg+"\xc0\x00", 8, typ, "\x03www\x02Ex\x00")
		checkData(t, msg+"\xc0\x04", 8, typ, "\x02Ex\x00")
		checkData(t, msg+"\xc0\x07", 8, typ, "\x00")
		checkData(t, msg+"\x01A\xc0\x04", 8, typ, "\x01A\x02Ex\x00")
		checkData(t, msg+"xyz\xc0\x00", 11, typ, "\x03www\x02Ex\x00")
		checkData(t, msg+"\xc0\x04\x01b\xc0\x08", 10, typ, "\x01b\x02Ex\x00")
	}
	checkData(t, msg+"\x00\x0a\xc0\x00", 8, mx, "\x00\x0a\x03www\x02Ex\x00")
	checkData(t, msg+"\xc0\x00\x01A\xc0\x04", 8, mx, "\xc0\x00\x01A\x02Ex\x00")
	checkData(t, msg+"\xc0\x04\xc0\x00"+numbers, 8, soa, "\x02Ex\x00\x03www\x02Ex\x00"+numbers)
	checkData(t, msg+"\xc0\x04\x01R\xc0\x04"+numbers, 8, soa, "\x02Ex\x00\x01R\x02Ex\x00"+numbers)
	checkData(t, msg+"\x01M\xc0\x04\x01R\x00"+numbers, 8, soa, "\x01M\x02Ex\x00\x01R\x00"+numbers)
	checkData(t, msg+"\x00\xc0\x07"+numbers, 8, soa, "\x00\x00"+numbers)
}

// What looks like a pointer is one only in a name.
func TestReadOfBytesThatLookLikePointers(t *testing.T) {
	msg := "\x01q\x00"
	checkData(t, msg+"\xc0\x00\xc0\x00", 3, a, "\xc0\x00\xc0\x00")
	checkData(t, msg+strings.Repeat("\xc0\x00", 8), 3, aaaa, strings.Repeat("\xc0\x00", 8))
	checkData(t, msg+"\x02\xc0\x00", 3, txt, "\x02\xc0\x00")
	checkData(t, msg+"\xc0\x00", 3, 99, "\xc0\x00")
	checkData(t, msg+"\xc0\x00\xc0\x00\xc0\x00\x01a\x00", 3, srv, "\xc0\x00\xc0\x00\xc0\x00\x01a\x00")
	checkData(t, msg+"\x00\x00"+strings.Repeat("\xc0\x00", 10), 3, soa, "\x00\x00"+strings.Repeat("\xc0\x00", 10))
	checkData(t, msg+"\x02\xc0\x00\x00", 3, ns, "\x02\xc0\x00\x00")
}

// The pointer of the second name may lead to the first one, or to numbers, if they are before it.
func TestReadOfPointersIntoTheDataItself(t *testing.T) {
	checkData(t, "xyz\x01m\x01a\x00\xc0\x03"+numbers, 3, soa, "\x01m\x01a\x00\x01m\x01a\x00"+numbers)
	checkData(t, "xyz\x01m\x01a\x00\x01r\xc0\x05"+numbers, 3, soa, "\x01m\x01a\x00\x01r\x01a\x00"+numbers)
	checkData(t, "\x01z\x00\x01m\xc0\x00\xc0\x03"+numbers, 3, soa, "\x01m\x01z\x00\x01m\x01z\x00"+numbers)
	checkData(t, "\x01z\x00\xc0\x00\xc0\x03"+numbers, 3, soa, "\x01z\x00\x01z\x00"+numbers)
	checkData(t, "xyz\x01m\x00\xc0\x05"+numbers, 3, soa, "\x01m\x00\x00"+numbers)
	checkData(t, "xyz\x00\x07\xc0\x03", 3, mx, "\x00\x07\x00")
	checkData(t, "xyz\x07\x00\x01a\xc0\x04", 3, mx, "\x07\x00\x01a\x00")
	checkNone(t, "xyz\x07\x00\x01a\xc0\x03", 3, mx)
}

func TestReadOfPointersForwardAndToThemselves(t *testing.T) {
	for to := range 16 {
		msg := "\x00" + "\x01a" + pointer(to) + "\x01b\x00" + "\x01c\x00"
		for _, typ := range []int{ns, cname, ptr} {
			if to == 0 {
				checkRead(t, msg, 1, 4, typ, "\x01a\x00", api.OK)
				checkRead(t, msg, 3, 2, typ, "\x00", api.OK)
				continue
			}
			checkRead(t, msg, 1, 4, typ, "", api.ErrForm)
			if to > 2 {
				checkRead(t, msg, 3, 2, typ, "", api.ErrForm)
			}
		}
		msg = "\x00" + "\x00\x00" + "\x01a" + pointer(to) + "\x01b\x00" + "\x01c\x00"
		if to < 3 {
			checkRead(t, msg, 1, 6, mx, "\x00\x00\x01a\x00", api.OK)
		} else {
			checkRead(t, msg, 1, 6, mx, "", api.ErrForm)
		}
		msg = "\x00" + "\x01m" + pointer(to) + "\x00" + numbers + "\x01a\x00"
		if to == 0 {
			checkRead(t, msg, 1, 25, soa, "\x01m\x00\x00"+numbers, api.OK)
		} else {
			checkRead(t, msg, 1, 25, soa, "", api.ErrForm)
		}
		msg = "\x00" + "\x00" + "\x01r" + pointer(to) + numbers + "\x01a\x00"
		if to < 2 {
			checkRead(t, msg, 1, 25, soa, "\x00\x01r\x00"+numbers, api.OK)
		} else {
			checkRead(t, msg, 1, 25, soa, "", api.ErrForm)
		}
	}
}

// The message goes on after the data, so that a name that is cut off there could be read on.
func TestReadOfAPointerAtTheEndOfTheData(t *testing.T) {
	for _, z := range []struct {
		typ       int
		data, one string
	}{
		{ns, "\xc0\x00", "\x01q\x00"},
		{cname, "\x01a\xc0\x00", "\x01a\x01q\x00"},
		{ptr, "\x01a\xc0\x02", "\x01a\x00"},
		{mx, "\x00\x01\xc0\x00", "\x00\x01\x01q\x00"},
		{mx, "\x00\x01\x01a\xc0\x00", "\x00\x01\x01a\x01q\x00"},
	} {
		msg := "\x01q\x00" + z.data
		checkData(t, msg, 3, z.typ, z.one)
		for _, more := range []string{"", "\x00", "\xc0\x00", "\x01z\x00"} {
			for size := range len(z.data) + len(more) {
				if size != len(z.data) {
					checkRead(t, msg+more, 3, size, z.typ, "", api.ErrForm)
				}
			}
		}
	}
	msg := "\x01q\x00" + "\x01m\x00\xc0\x00"
	checkData(t, msg+numbers, 3, soa, "\x01m\x00\x01q\x00"+numbers)
	for size := range 40 {
		if size != 25 {
			checkRead(t, msg+numbers+numbers, 3, size, soa, "", api.ErrForm)
		}
	}
}

func TestReadOfNamesThatAreCutOff(t *testing.T) {
	for _, typ := range named {
		for _, data := range samples(typ) {
			for size := range len(data) {
				checkRead(t, data, 0, size, typ, "", api.ErrForm)
			}
		}
	}
}

// From the offset of a pointer on, labels may go on beyond the data, even beyond its end.
func TestReadOfLabelsBeyondTheData(t *testing.T) {
	msg := "\x06x\x01a\xc0\x00y\x00"
	checkRead(t, msg, 2, 4, ns, "\x01a\x06x\x01a\xc0\x00y\x00", api.OK)
	checkRead(t, msg, 4, 2, ns, "\x06x\x01a\xc0\x00y\x00", api.OK)
	checkRead(t, msg[:7], 2, 4, ns, "", api.ErrForm)
	msg = "\x08x\x00\x07\x01a\xc0\x00y\x00"
	checkRead(t, msg, 2, 6, mx, "\x00\x07\x01a\x08x\x00\x07\x01a\xc0\x00y\x00", api.OK)
}

func TestReadOfSRV(t *testing.T) {
	checkData(t, "\x01a\x00"+"123456\x01b\x01a\x00", 3, srv, "123456\x01b\x01a\x00")
	checkData(t, "\x01a\x00"+"123456\x00", 3, srv, "123456\x00")
	checkData(t, "123456"+longest, 0, srv, "123456"+longest)
	for _, n := range []string{"\xc0\x00", "\xc0\x02", "\x01b\xc0\x00", "\x01b\xc0\x02", "\x01b\x01c\xc0\x02"} {
		checkNone(t, "\x01a\x00"+"123456"+n, 3, srv)
		checkNone(t, "\x01a\x00"+"\x00\x00\x00\x00\x00\x00"+n, 3, srv)
		checkData(t, "\x01a\x00"+"12"+n, 3, mx, "12"+n[:len(n)-2]+"\x01a\x00"[n[len(n)-1]:])
	}
	checkNone(t, "\x00123456\xc0\x00", 1, srv)
}

// Pointers make names longer, and at most as long as a name can be.
func TestReadOfLongNames(t *testing.T) {
	single := strings.Repeat("\x01a", 127) + "\x00"
	for _, n := range []string{longest, single} {
		for _, typ := range []int{ns, cname, ptr} {
			checkData(t, n+"\xc0\x00", 255, typ, n)
			checkNone(t, n+"\x01a\xc0\x00", 255, typ)
		}
		checkData(t, n+"12\xc0\x00", 255, mx, "12"+n)
		checkNone(t, n+"12\x01a\xc0\x00", 255, mx)
		checkData(t, n+"\xc0\x00\xc0\x00"+numbers, 255, soa, n+n+numbers)
		checkNone(t, n+"\x01a\xc0\x00\xc0\x00"+numbers, 255, soa)
		checkNone(t, n+"\xc0\x00\x01a\xc0\x00"+numbers, 255, soa)
	}
	checkData(t, single+"\x01b\xc0\x02", 255, ns, "\x01b"+single[2:])
	checkNone(t, single+"\x02bc\xc0\x02", 255, ns)
	checkNone(t, single+"\x01b\x01c\xc0\x02", 255, ns)
	checkNone(t, tooLong, 0, ns)
	checkNone(t, tooLong+"\xc0\x00", 256, ns)
	checkData(t, tooLong+"\xc0\x40", 256, ns, tooLong[64:])
}

// A size above MaxData is not valid, even if a message has as many bytes.
func TestReadOfMaxDataBytes(t *testing.T) {
	msg := pad(100) + texts(maxData) + "\x00" + "\x00" + pad(100)
	for _, at := range []int{0, 1, 100, 101} {
		for _, typ := range others {
			for _, size := range []int{maxData - 1, maxData} {
				checkRead(t, msg, at, size, typ, msg[at:at+size], api.OK)
			}
			for _, size := range []int{maxData + 1, maxData + 2, len(msg) - at} {
				checkRead(t, msg, at, size, typ, "", api.ErrForm)
			}
		}
	}
	checkRead(t, msg, 100, maxData, txt, texts(maxData), api.OK)
	checkRead(t, msg, 100, maxData-1, txt, "", api.ErrForm)
	checkRead(t, msg, 100, maxData+1, txt, "", api.ErrForm)
	checkRead(t, msg, 100, maxData+2, txt, "", api.ErrForm)
	for _, typ := range named {
		checkRead(t, strings.Repeat("\x00", maxData+30), 1, maxData, typ, "", api.ErrForm)
		checkRead(t, strings.Repeat("\x00", maxData+30), 1, maxData+1, typ, "", api.ErrForm)
	}
}

func TestReadFarBehind(t *testing.T) {
	msg := "\x01q\x00" + pad(100000)
	for _, typ := range []int{ns, cname, ptr} {
		checkData(t, msg+"\x01a\xc0\x00", len(msg), typ, "\x01a\x01q\x00")
	}
	checkData(t, msg+"12\xc0\x00", len(msg), mx, "12\x01q\x00")
	checkData(t, msg+"\xc0\x00\xc0\x02"+numbers, len(msg), soa, "\x01q\x00\x00"+numbers)
}

// checkEverywhere compares Read at each offset and with each size with the model, and next to them.
func checkEverywhere(t *testing.T, msg string, types []int) {
	t.Helper()
	for at := -1; at <= len(msg)+1; at++ {
		for size := -1; size <= len(msg)-at+1; size++ {
			for _, typ := range types {
				d, e := modelRead(msg, at, size, typ)
				checkRead(t, msg, at, size, typ, d, e)
			}
		}
	}
}

func TestReadOfEveryShortMessage(t *testing.T) {
	every("\x00\x01\x02\xc0", 5, func(msg string) {
		checkEverywhere(t, msg, append([]int{0, -1, 99}, listed...))
	})
	every("\x00\x01\x02\xc0", 6, func(s string) {
		msg := s + "\x00\x01\x02\xc0\x00\x01\x00\x01\x00\x01\x01\x02\x02\xc0\x00\xc0\x01\x00\x00\x00\x01\x00"
		for at := range len(s) {
			for size := 20; at+size <= len(msg); size++ {
				d, e := modelRead(msg, at, size, soa)
				checkRead(t, msg, at, size, soa, d, e)
			}
		}
	})
	every("\x00\x01\xc0", 6, func(s string) {
		msg := "\x01\x00\x00" + s + "\xc0\x00\x00"
		checkEverywhere(t, msg, []int{srv, mx, ns})
	})
}

func TestReadOfRandomMessages(t *testing.T) {
	r := rand.New(rand.NewSource(103))
	for range 20000 {
		msg := ""
		for range 1 + r.Intn(4) {
			typ := randomType(r)
			data := changed(r, randomData(r, typ))
			if r.Intn(3) == 0 && len(data) > 1 {
				data = data[:len(data)-1] + pointer(r.Intn(len(msg)+2))
			}
			at := len(msg)
			msg += data
			d, e := modelRead(msg, at, len(data), typ)
			checkRead(t, msg, at, len(data), typ, d, e)
		}
		for range 10 {
			at := r.Intn(len(msg) + 1)
			size, typ := r.Intn(len(msg)-at+2), randomType(r)
			d, e := modelRead(msg, at, size, typ)
			checkRead(t, msg, at, size, typ, d, e)
		}
	}
}

func TestWriteOfWhatIsNotValid(t *testing.T) {
	p := pack.New()
	p.Name("\x01a\x00", true)
	for _, typ := range listed {
		for _, data := range []string{"", "x", "\x02b", "\x01b\x00\x01x\x05", "12345", "123456\x01b", "\x01b\x00\x01c\x00" + numbers[1:], "\x00\x00" + numbers + "z", strings.Repeat("\x00", maxData+1)} {
			checkNoWrite(t, p, typ, data)
		}
	}
	checkNoWrite(t, p, 99, strings.Repeat("x", maxData+1))
	for _, typ := range named {
		for _, n := range []string{"\xc0\x00", "\x01b\xc0\x00"} {
			checkNoWrite(t, p, typ, numbers[:before(typ)]+n)
			checkNoWrite(t, p, typ, n)
		}
	}
	checkNoWrite(t, p, soa, "\x01b\x00\xc0\x00"+numbers)
	checkBytes(t, p, "\x01a\x00")
}

func TestWriteOfWhatIsNotValidMakesNothingKnown(t *testing.T) {
	p := pack.New()
	p.Raw("x")
	checkNoWrite(t, p, ns, "\x01b\x00\x00")
	checkNoWrite(t, p, mx, "12\x01b\x00\x00")
	checkNoWrite(t, p, srv, "123456\x01b\x00\x00")
	checkNoWrite(t, p, soa, "\x01b\x00\x01c"+numbers)
	checkNoWrite(t, p, soa, "\x01b\x00\x01c\x00"+numbers[1:])
	checkNoWrite(t, p, soa, "\x01b\x00\x01c\x00"+numbers+"z")
	checkWrite(t, p, ns, "\x01b\x00", "\x01b\x00")
	checkWrite(t, p, ns, "\x01c\x00", "\x01c\x00")
	checkBytes(t, p, "x\x01b\x00\x01c\x00")
}

func TestWriteWithNamesThatAreKnown(t *testing.T) {
	p := pack.New()
	p.Name("\x03www\x02ex\x00", true)
	checkWrite(t, p, ns, "\x02ex\x00", "\xc0\x04")
	checkWrite(t, p, cname, "\x03www\x02ex\x00", "\xc0\x00")
	checkWrite(t, p, ptr, "\x01a\x02ex\x00", "\x01a\xc0\x04")
	checkWrite(t, p, mx, "\x00\x0a\x03www\x02ex\x00", "\x00\x0a\xc0\x00")
	checkWrite(t, p, soa, "\x01m\x02ex\x00\x01r\x03www\x02ex\x00"+numbers, "\x01m\xc0\x04\x01r\xc0\x00"+numbers)
	checkWrite(t, p, ns, "\x02EX\x00", "\x02EX\x00")
	checkWrite(t, p, ns, "\x00", "\x00")
	checkWrite(t, p, mx, "\x00\x0a\x00", "\x00\x0a\x00")
	checkWrite(t, p, soa, "\x00\x00"+numbers, "\x00\x00"+numbers)
}

func TestWriteOfNamesThatBecomeKnown(t *testing.T) {
	for _, typ := range []int{ns, cname, ptr, mx} {
		first := "12"[:before(typ)]
		p := pack.New()
		p.Raw("x")
		at := 1 + len(first)
		checkWrite(t, p, typ, first+"\x01a\x01b\x00", first+"\x01a\x01b\x00")
		checkWrite(t, p, typ, first+"\x01a\x01b\x00", first+pointer(at))
		checkWrite(t, p, typ, first+"\x01b\x00", first+pointer(at+2))
		checkWrite(t, p, typ, first+"\x01c\x01b\x00", first+"\x01c"+pointer(at+2))
		if e := p.Name("\x01d\x01b\x00", true); e != api.OK {
			t.Error(e)
		}
		if !strings.HasSuffix(p.Bytes(), "\x01d"+pointer(at+2)) {
			t.Errorf("%q", p.Bytes())
		}
	}
	p := pack.New()
	checkWrite(t, p, soa, "\x01m\x01a\x00\x01r\x01a\x00"+numbers, "\x01m\x01a\x00\x01r\xc0\x02"+numbers)
	checkWrite(t, p, soa, "\x01r\x01a\x00\x01m\x01a\x00"+numbers, "\xc0\x05\xc0\x00"+numbers)
	checkWrite(t, p, soa, "\x01x\x00\x01x\x00"+numbers, "\x01x\x00\xc0\x35"+numbers)
	checkWrite(t, p, mx, "12\x01r\x01a\x00", "12\xc0\x05")
}

func TestWriteOfSRV(t *testing.T) {
	p := pack.New()
	p.Name("\x01a\x00", true)
	checkWrite(t, p, srv, "123456\x01a\x00", "123456\x01a\x00")
	checkWrite(t, p, srv, "123456\x01b\x01a\x00", "123456\x01b\x01a\x00")
	checkWrite(t, p, srv, "123456\x01b\x01a\x00", "123456\x01b\x01a\x00")
	checkWrite(t, p, srv, "123456\x00", "123456\x00")
	// Its name is known now, but its suffix was known before.
	checkWrite(t, p, ns, "\x01b\x01a\x00", "\xc0\x12")
	checkWrite(t, p, ns, "\x01a\x00", "\xc0\x00")
	checkWrite(t, p, mx, "12\x01c\x01b\x01a\x00", "12\x01c\xc0\x12")
}

// Only names become known, not what looks like them in other data.
func TestWriteOfWhatLooksLikeNames(t *testing.T) {
	p := pack.New()
	checkWrite(t, p, a, "\x01a\x00\x00", "\x01a\x00\x00")
	checkWrite(t, p, txt, "\x01a\x00", "\x01a\x00")
	checkWrite(t, p, 99, "\x01a\x00", "\x01a\x00")
	checkWrite(t, p, aaaa, "\x01a\x000123456789abc", "\x01a\x000123456789abc")
	checkWrite(t, p, srv, "\x01a\x00\x01a\x00\x01b\x00", "\x01a\x00\x01a\x00\x01b\x00")
	checkWrite(t, p, soa, "\x00\x00"+strings.Repeat("\x01a\x00\x00", 5), "\x00\x00"+strings.Repeat("\x01a\x00\x00", 5))
	checkWrite(t, p, mx, "\x01a\x00", "\x01a\x00")
	checkWrite(t, p, ns, "\x01a\x00", "\x01a\x00")
	checkWrite(t, p, txt, "\x01a\x00", "\x01a\x00")
	checkWrite(t, p, 99, "\x01a\x00", "\x01a\x00")
	checkWrite(t, p, 99, "\x01a\x00", "\x01a\x00")
}

func TestWriteOfTypesThatAreNotInTheList(t *testing.T) {
	p := pack.New()
	for _, typ := range others {
		checkWrite(t, p, typ, "\x01a\x00", "\x01a\x00")
		checkWrite(t, p, typ, "", "")
	}
}

func TestWriteNearTheLimitOfPointers(t *testing.T) {
	for at := limit - 12; at <= limit+2; at++ {
		for _, typ := range []int{ns, mx, srv} {
			data := numbers[:before(typ)] + "\x01a\x01b\x00"
			p := pack.New()
			p.Raw(pad(at))
			checkWrite(t, p, typ, data, data)
			first := at + before(typ)
			switch {
			case first < limit:
				checkWrite(t, p, ns, "\x01a\x01b\x00", pointer(first))
			default:
				checkWrite(t, p, ns, "\x01a\x01b\x00", "\x01a\x01b\x00")
			}
		}
	}
}

// P10.3

func TestEachDataIsReadBack(t *testing.T) {
	for _, first := range []string{"", "\x00", "xyz", pad(limit - 30), pad(70000)} {
		p := pack.New()
		p.Raw(first)
		var puts []put
		for range 2 {
			for _, typ := range append([]int{0, -1, 99, math.MaxInt}, listed...) {
				for _, data := range append(samples(typ), samples(ns)...) {
					if !modelRight(typ, data) {
						continue
					}
					at := p.Len()
					if e := rdata.Write(p, typ, data); e != api.OK {
						t.Errorf("Write(%d, %s) = %v", typ, brief(data), e)
					}
					puts = append(puts, put{typ, data, at, p.Len() - at})
				}
			}
		}
		checkReadBack(t, p, puts)
	}
}

// put is data and where it was put.
type put struct {
	typ      int
	data     string
	at, size int
}

// checkReadBack reads everything again, and with a size of one byte less and one more, which is wrong for most types.
func checkReadBack(t *testing.T, p *pack.Packer, puts []put) {
	t.Helper()
	msg := p.Bytes()
	for _, x := range puts {
		checkRead(t, msg, x.at, x.size, x.typ, x.data, api.OK)
		if count(x.typ) > 0 {
			checkRead(t, msg, x.at, x.size-1, x.typ, "", api.ErrForm)
			checkRead(t, msg+"\x00", x.at, x.size+1, x.typ, "", api.ErrForm)
		}
	}
}

func randomType(r *rand.Rand) int {
	if r.Intn(8) == 0 {
		return others[r.Intn(len(others))]
	}
	return listed[r.Intn(len(listed))]
}

func randomName(r *rand.Rand) string {
	parts := []string{"a", "A", "b", "aB", "\x00", "\x01a", "\xc0\x00", "\xff", strings.Repeat("Z", 63)}
	var labels []string
	for range r.Intn(4) {
		labels = append(labels, parts[r.Intn(1+r.Intn(len(parts)))])
	}
	return wire(labels...)
}

func randomBytes(r *rand.Rand, size int) string {
	b := make([]byte, size)
	for i := range b {
		b[i] = "\x00\x01\x02ABz\xc0\xff"[r.Intn(8)]
	}
	return string(b)
}

// randomData is valid.
func randomData(r *rand.Rand, typ int) string {
	data := ""
	switch typ {
	case a:
		return randomBytes(r, 4)
	case aaaa:
		return randomBytes(r, 16)
	case txt:
		for range 1 + r.Intn(4) {
			s := randomBytes(r, r.Intn(5))
			data += string([]byte{byte(len(s))}) + s
		}
		return data
	case ns, cname, ptr, mx, soa, srv:
		data = randomBytes(r, before(typ))
		for range count(typ) {
			data += randomName(r)
		}
		return data + randomBytes(r, after(typ))
	}
	return randomBytes(r, r.Intn(8))
}

// changed is data, mostly with a small change.
func changed(r *rand.Rand, data string) string {
	i := r.Intn(len(data) + 1)
	switch r.Intn(5) {
	case 0:
		return data[:i] + randomBytes(r, 1) + data[i:]
	case 1:
		return data[:i]
	case 2:
		return data[:i] + data[min(len(data), i+1):]
	case 3:
		return data[:i] + randomBytes(r, min(1, len(data)-i)) + data[min(len(data), i+1):]
	}
	return data
}

func TestRandomWrites(t *testing.T) {
	r := rand.New(rand.NewSource(104))
	for range 2000 {
		p, m := pack.New(), pack.New()
		if r.Intn(3) == 0 {
			s := pad(limit - r.Intn(200))
			p.Raw(s)
			m.Raw(s)
		}
		var puts []put
		for range r.Intn(20) {
			typ, at := randomType(r), p.Len()
			data := randomData(r, typ)
			if r.Intn(4) == 0 {
				data = changed(r, data)
			}
			want := modelWrite(m, typ, data)
			if e := rdata.Write(p, typ, data); e != want {
				t.Errorf("Write(%d, %s) = %v; want %v", typ, brief(data), e, want)
			}
			checkBytes(t, p, m.Bytes())
			if want == api.OK {
				puts = append(puts, put{typ, data, at, p.Len() - at})
			}
		}
		checkReadBack(t, p, puts)
	}
}

// R7

func TestCallsDoNotDependOnEarlierOnes(t *testing.T) {
	p, q := pack.New(), pack.New()
	checkWrite(t, p, ns, "\x01a\x01b\x00", "\x01a\x01b\x00")
	checkBytes(t, q, "")
	checkWrite(t, q, mx, "12\x01b\x00", "12\x01b\x00")
	checkWrite(t, p, ns, "\x01b\x00", "\xc0\x02")
	checkWrite(t, q, ns, "\x01a\x01b\x00", "\x01a\xc0\x02")
	checkBytes(t, p, "\x01a\x01b\x00\xc0\x02")
	for range 3 {
		checkValid(t, mx, "AB\x01A\x00", "AB\x01a\x00")
		checkWrong(t, mx, "AB\x01A")
		checkData(t, "\x01a\x0012\xc0\x00", 3, mx, "12\x01a\x00")
		checkSoa(t, "\x00\x00"+strings.Repeat("\x00\x00\x00\x01", 5), rdata.SOA{M: "\x00", R: "\x00", Serial: 1, Refresh: 1, Retry: 1, Expire: 1, Minimum: 1})
		checkNoSoa(t, "\x00\x00")
	}
}
