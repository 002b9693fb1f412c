package pack_test

import (
	"fmt"
	"math"
	"math/rand"
	"strings"
	"testing"

	"beadroll/api"
	"beadroll/pack"
)

const (
	maxName = 255
	// limit is the first offset to which no pointer can lead.
	limit = 0x4000
)

// longest is a name of MaxName bytes; tooLong has one byte more, and is otherwise a name.
var (
	longest = wire(strings.Repeat("a", 63), strings.Repeat("B", 63), strings.Repeat("c", 63), strings.Repeat("d", 61))
	tooLong = wire(strings.Repeat("a", 63), strings.Repeat("B", 63), strings.Repeat("c", 63), strings.Repeat("d", 62))
)

// wrong are strings that are not names.
var wrong = []string{
	"",
	"\x01",
	"\x01a",
	"\x00\x00",
	"\x00\x01a\x00",
	"\x01a\x00\x00",
	"\x01a\x00\x01b\x00",
	"\x01a\x02b\x00",
	"\x03ab\x00",
	"\x02ex\x01",
	"\xc0",
	"\xc0\x00",
	"\x01a\xc0\x00",
	"\x40" + strings.Repeat("a", 64) + "\x00",
	"\x01a\x40" + strings.Repeat("a", 64) + "\x00",
	"\xff" + strings.Repeat("a", 255) + "\x00",
	strings.Repeat("\x01a", 128) + "\x00",
	strings.Repeat("\x01a", 100000) + "\x00",
	tooLong,
}

func wire(labels ...string) string {
	n := ""
	for _, l := range labels {
		n += string([]byte{byte(len(l))}) + l
	}
	return n + "\x00"
}

// pointer is the two bytes of a pointer to an offset.
func pointer(to int) string {
	return string([]byte{byte(0xc0 + to/256), byte(to % 256)})
}

func pad(size int) string {
	return strings.Repeat("\xee", size)
}

// modelAt reads by offsets, and follows a pointer as the chapter says it: by the name at its offset.
func modelAt(msg string, at int) (n string, next int, ok bool) {
	i := at
	for i < len(msg) && 0x01 <= msg[i] && msg[i] <= 0x3f {
		i += 1 + int(msg[i])
	}
	switch {
	case i >= len(msg):
		return "", 0, false
	case msg[i] == 0x00:
		return msg[at : i+1], i + 1, true
	case msg[i] <= 0xbf || i+1 == len(msg):
		return "", 0, false
	}
	to := int(msg[i]-0xc0)*256 + int(msg[i+1])
	if to >= at {
		return "", 0, false
	}
	rest, _, ok := modelAt(msg, to)
	return msg[at:i] + rest, i + 2, ok
}

func modelRead(msg string, at int) (string, int, api.Errno) {
	if at < 0 || at > len(msg) {
		return "", 0, api.ErrArg
	}
	n, next, ok := modelAt(msg, at)
	if !ok || len(n) > maxName {
		return "", 0, api.ErrForm
	}
	return n, next, api.OK
}

// isName uses that a name is what is read without pointers.
func isName(n string) bool {
	got, next, e := modelRead(n, 0)
	return e == api.OK && got == n && next == len(n)
}

// place is where a suffix was written.
type place struct {
	suffix string
	at     int
}

// model is a packer that searches all that was written, from the first place on.
type model struct {
	msg    string
	places []place
}

func (m *model) find(suffix string) (int, bool) {
	for _, p := range m.places {
		if p.suffix == suffix && p.at < limit {
			return p.at, true
		}
	}
	return 0, false
}

func (m *model) put(n string, may bool) api.Errno {
	if !isName(n) {
		return api.ErrForm
	}
	var written []place
	end := "\x00"
	i := 0
	for n[i] != 0 {
		if to, ok := m.find(n[i:]); ok && may {
			end = pointer(to)
			break
		}
		written = append(written, place{n[i:], len(m.msg) + i})
		i += 1 + int(n[i])
	}
	m.msg += n[:i] + end
	m.places = append(m.places, written...)
	return api.OK
}

// brief is s for a message, without most of a long text.
func brief(s string) string {
	if len(s) > 40 {
		return fmt.Sprintf("%q.. (%d bytes)", s[:40], len(s))
	}
	return fmt.Sprintf("%q", s)
}

func checkRead(t *testing.T, msg string, at int, want string, wantNext int, wantE api.Errno) {
	t.Helper()
	if n, next, e := pack.Read(msg, at); n != want || next != wantNext || e != wantE {
		t.Errorf("Read(%s, %d) = %s, %d, %v; want %s, %d, %v", brief(msg), at, brief(n), next, e, brief(want), wantNext, wantE)
	}
}

func checkNone(t *testing.T, msg string, at int) {
	t.Helper()
	checkRead(t, msg, at, "", 0, api.ErrForm)
}

// checkEverywhere compares Read at each offset, and next to them, with the model.
func checkEverywhere(t *testing.T, msg string) {
	t.Helper()
	for at := -1; at <= len(msg)+1; at++ {
		n, next, e := modelRead(msg, at)
		checkRead(t, msg, at, n, next, e)
	}
}

func checkBytes(t *testing.T, p *pack.Packer, want string) {
	t.Helper()
	b := p.Bytes()
	if b != want {
		i := 0
		for i < len(b) && i < len(want) && b[i] == want[i] {
			i++
		}
		t.Errorf("from the offset %d on, the message has %s; want %s", i, brief(b[i:]), brief(want[i:]))
	}
	if p.Len() != len(want) {
		t.Errorf("Len() = %d; want %d", p.Len(), len(want))
	}
}

func checkRaw(t *testing.T, p *pack.Packer, b string) {
	t.Helper()
	before := p.Bytes()
	p.Raw(b)
	checkBytes(t, p, before+b)
}

// checkName puts a name, and checks what it appended and that it is read back.
func checkName(t *testing.T, p *pack.Packer, n string, may bool, appended string) {
	t.Helper()
	before := p.Bytes()
	if e := p.Name(n, may); e != api.OK {
		t.Errorf("Name(%s, %v) = %v", brief(n), may, e)
	}
	checkBytes(t, p, before+appended)
	checkRead(t, p.Bytes(), len(before), n, p.Len(), api.OK)
}

func checkNoName(t *testing.T, p *pack.Packer, n string) {
	t.Helper()
	before := p.Bytes()
	for _, may := range []bool{true, false} {
		if e := p.Name(n, may); e != api.ErrForm {
			t.Errorf("Name(%s, %v) = %v", brief(n), may, e)
		}
		checkBytes(t, p, before)
	}
}

// P9.1

func TestReadOfANameWithoutPointers(t *testing.T) {
	checkRead(t, "\x00", 0, "\x00", 1, api.OK)
	checkRead(t, "\x01a\x00", 0, "\x01a\x00", 3, api.OK)
	checkRead(t, "\x03wWw\x02Ex\x00", 0, "\x03wWw\x02Ex\x00", 8, api.OK)
	checkRead(t, "\x03wWw\x02Ex\x00", 4, "\x02Ex\x00", 8, api.OK)
	checkRead(t, "\x03wWw\x02Ex\x00", 7, "\x00", 8, api.OK)
	checkRead(t, "xy\x01a\x00z", 2, "\x01a\x00", 5, api.OK)
	checkRead(t, "\x00\x00\x00", 1, "\x00", 2, api.OK)
}

func TestReadOutsideOfTheMessage(t *testing.T) {
	for _, msg := range []string{"", "\x00", "\x01a\x00", "\x01a", "\xc0\x00"} {
		for _, at := range []int{-1, -2, -len(msg) - 1, math.MinInt, len(msg) + 1, len(msg) + 2, len(msg) + 1000, math.MaxInt} {
			checkRead(t, msg, at, "", 0, api.ErrArg)
		}
		checkNone(t, msg, len(msg))
	}
	checkRead(t, "\x00", 0, "\x00", 1, api.OK)
}

// Each byte stands where a label begins, with as many bytes as it asks for if it is a length.
func TestReadOfEachFirstByte(t *testing.T) {
	for c := range 256 {
		b := string([]byte{byte(c)})
		label := b + strings.Repeat("x", c)
		switch {
		case c == 0:
			checkRead(t, label, 0, "\x00", 1, api.OK)
			checkRead(t, "\x01a"+label, 0, "\x01a\x00", 3, api.OK)
		case c <= 0x3f:
			checkRead(t, label+"\x00", 0, label+"\x00", c+2, api.OK)
			checkRead(t, "\x01a"+label+"\x00yy", 0, "\x01a"+label+"\x00", c+4, api.OK)
			checkRead(t, "\x01a"+label+"\x00yy", 2, label+"\x00", c+4, api.OK)
			checkNone(t, label, 0)
			checkNone(t, label[:len(label)-1], 0)
		default:
			checkNone(t, label+"\x00", 0)
			checkNone(t, "\x01a"+label+"\x00", 0)
		}
	}
}

// Each byte stands behind a name to which it leads if it begins a pointer.
func TestReadOfEachFirstByteOfAPointer(t *testing.T) {
	n := "\x01z\x00"
	for c := range 256 {
		b := string([]byte{byte(c)})
		msg := n + b + "\x00" + "\x01y" + b + "\x00"
		if c == 0xc0 {
			checkRead(t, msg, 3, n, 5, api.OK)
			checkRead(t, msg, 5, "\x01y"+n, 9, api.OK)
		} else if c >= 0x40 {
			checkNone(t, msg, 3)
			checkNone(t, msg, 5)
		}
		checkEverywhere(t, msg+pad(300))
		if c >= 0x40 {
			checkNone(t, n+b, 3)
			checkNone(t, n+"\x01y"+b, 3)
		}
	}
	for c := 0xc0; c <= 0xff; c++ {
		to := (c - 0xc0) * 256
		msg := pad(to) + n + string([]byte{byte(c), 0x00})
		checkRead(t, msg, to+3, n, to+5, api.OK)
	}
}

func TestReadOfLabelsOf64BytesAndMore(t *testing.T) {
	for _, size := range []int{0x3f, 0x40, 0x41, 0x7f, 0x80, 0xbf} {
		n := wire(strings.Repeat("x", size))
		if size == 0x3f {
			checkRead(t, n, 0, n, len(n), api.OK)
			checkRead(t, n+"\x01a\xc0\x00", len(n), "\x01a"+n, len(n)+4, api.OK)
			continue
		}
		checkNone(t, n, 0)
		checkNone(t, "\x01a"+n, 0)
		checkNone(t, n+"\xc0\x00", len(n))
		checkNone(t, n+"\x01a\xc0\x00", len(n))
	}
}

func TestReadOfMissingBytes(t *testing.T) {
	for _, msg := range []string{
		"\x01",
		"\x02a",
		"\x3f",
		"\x3f" + strings.Repeat("a", 62),
		"\x01a",
		"\x01a\x01",
		"\x01a\x02b",
		"\x01a\x02bc",
		"\xc0",
		"\xff",
		"\x01a\xc0",
		"\x01a\x01b\xff",
	} {
		checkNone(t, msg, 0)
		checkNone(t, "\x00"+msg, 1)
		checkNone(t, "\x01a\x00"+msg, 3)
		checkNone(t, "\x02ab\x00\x00"+msg, 5)
	}
}

func TestReadOfEachPartOfAMessage(t *testing.T) {
	msg := "\x03www\x02ex\x00" + "\x04mail\xc0\x04" + "\x01a\xc0\x08" + "\xc0\x0f"
	checkRead(t, msg, 8, "\x04mail\x02ex\x00", 15, api.OK)
	checkRead(t, msg, 15, "\x01a\x04mail\x02ex\x00", 19, api.OK)
	checkRead(t, msg, 19, "\x01a\x04mail\x02ex\x00", 21, api.OK)
	for end := range msg {
		checkEverywhere(t, msg[:end])
	}
}

func TestReadOfAPointer(t *testing.T) {
	msg := "\x01a\x01b\x00"
	checkRead(t, msg+"\xc0\x00", 5, "\x01a\x01b\x00", 7, api.OK)
	checkRead(t, msg+"\xc0\x02", 5, "\x01b\x00", 7, api.OK)
	checkRead(t, msg+"\xc0\x04", 5, "\x00", 7, api.OK)
	checkRead(t, msg+"\x01c\xc0\x00", 5, "\x01c\x01a\x01b\x00", 9, api.OK)
	checkRead(t, msg+"\x01c\x02de\xc0\x02", 5, "\x01c\x02de\x01b\x00", 12, api.OK)
	checkRead(t, msg+"\x01c\xc0\x02\x01d\x00", 5, "\x01c\x01b\x00", 9, api.OK)
	checkRead(t, msg+"\x01c\xc0\x02\x01d\x00", 9, "\x01d\x00", 12, api.OK)
}

func TestReadOfAPointerToTheRoot(t *testing.T) {
	checkRead(t, "\x00\xc0\x00", 1, "\x00", 3, api.OK)
	checkRead(t, "\x00\x01a\xc0\x00", 1, "\x01a\x00", 5, api.OK)
	checkRead(t, "\x01a\x00\x01b\xc0\x02z", 3, "\x01b\x00", 7, api.OK)
}

func TestReadOfAPointerToItself(t *testing.T) {
	checkNone(t, "\xc0\x00", 0)
	checkNone(t, "\xc0\x00\x00", 0)
	checkNone(t, "\x00\xc0\x01", 1)
	checkNone(t, "\x00\x01a\xc0\x03", 1)
	checkNone(t, "\x01a\xc0\x02", 0)
	checkNone(t, pad(0x3fff)+"\xff\xff", 0x3fff)
}

func TestReadOfAPointerForward(t *testing.T) {
	checkNone(t, "\xc0\x01\x00", 0)
	checkNone(t, "\xc0\x02\x00", 0)
	checkNone(t, "\xc0\x02\x01a\x00", 0)
	checkNone(t, "\x01a\xc0\x04\x01b\x00", 0)
	checkNone(t, "\x00\x01a\xc0\x05\x01b\x00", 1)
	checkNone(t, "\x00\xc0\x03", 1)
	checkNone(t, "\x00\xc0\x04", 1)
	checkNone(t, "\x00\xff\xff", 1)
}

// A pointer has to lead below the labels before it, not only below itself.
func TestReadOfAPointerToTheLabelsBeforeIt(t *testing.T) {
	checkNone(t, "\x01a\xc0\x00", 0)
	checkNone(t, "\x01a\x01b\xc0\x02", 0)
	checkNone(t, "\x01a\x01b\xc0\x00", 0)
	checkNone(t, "\x03\x01b\x00\xc0\x01", 0)
	checkNone(t, "\x00\x01a\xc0\x01", 1)
	checkNone(t, "\x00\x01a\x01b\xc0\x03", 1)
	checkNone(t, "\x00\x03\x01b\x00\xc0\x02", 1)
	checkRead(t, "\x00\x01a\xc0\x00", 1, "\x01a\x00", 5, api.OK)
	checkRead(t, "\x00\x01a\x01b\xc0\x00", 1, "\x01a\x01b\x00", 7, api.OK)
}

// The limit moves with each pointer: it is the offset to which the one before led, not the name's.
func TestReadOfASecondPointerToTheLabelsBeforeIt(t *testing.T) {
	for to := range 12 {
		msg := "\x00" + "\x01b\x01c" + pointer(to) + "\x01d\xc0\x01"
		if to == 0 {
			checkRead(t, msg, 7, "\x01d\x01b\x01c\x00", 11, api.OK)
		} else {
			checkNone(t, msg, 7)
		}
	}
	checkNone(t, "\x01a\x01b\xc0\x02\x01c\xc0\x00", 6)
	checkNone(t, "\x01a\x01b\xc0\x00\x01c\xc0\x02", 6)
}

func TestReadOfAPointerIntoALabel(t *testing.T) {
	checkRead(t, "\x03\x01b\x00\x00\x01c\xc0\x01", 5, "\x01c\x01b\x00", 9, api.OK)
	checkRead(t, "\x04\x01b\x00x\x00\xc0\x01", 6, "\x01b\x00", 8, api.OK)
	checkRead(t, "\x02a\x00\x00\xc0\x02", 4, "\x00", 6, api.OK)
	checkNone(t, "\x03www\x00\xc0\x01", 5)
	checkNone(t, "\x02\x05a\x00\xc0\x01", 4)
}

// From a lower offset on, the labels may go on beyond the pointer that led there.
func TestReadOfLabelsBeyondThePointer(t *testing.T) {
	msg := "\x06x\x01a\xc0\x00y\x00"
	checkRead(t, msg, 2, "\x01a\x06x\x01a\xc0\x00y\x00", 6, api.OK)
	checkRead(t, msg, 4, "\x06x\x01a\xc0\x00y\x00", 6, api.OK)
	checkNone(t, msg[:7], 2)
	checkNone(t, msg[:7]+"\xc0\x00", 2)
}

func TestReadOfAPointerToAPointer(t *testing.T) {
	msg := "\x01a\x00" + "\xc0\x00" + "\xc0\x03" + "\x01b\xc0\x05"
	checkRead(t, msg, 3, "\x01a\x00", 5, api.OK)
	checkRead(t, msg, 5, "\x01a\x00", 7, api.OK)
	checkRead(t, msg, 7, "\x01b\x01a\x00", 11, api.OK)
	checkNone(t, "\x01a\x00\xc0\x05\xc0\x03", 5)
}

func TestReadOfCircles(t *testing.T) {
	checkNone(t, "\xc0\x02\xc0\x00", 0)
	checkNone(t, "\xc0\x02\xc0\x00", 2)
	checkNone(t, "\x01a\xc0\x04\x01b\xc0\x00", 0)
	checkNone(t, "\x01a\xc0\x04\x01b\xc0\x00", 4)
	checkNone(t, "\xc0\x04\xc0\x00\xc0\x02", 4)
	checkNone(t, "\xc0\x02\xc0\x04\xc0\x00", 4)
	for size := 1; size <= 100; size++ {
		msg := pointer(2 * (size - 1))
		for i := 1; i < size; i++ {
			msg += pointer(2 * (i - 1))
		}
		for at := 0; at < len(msg); at += 2 {
			checkNone(t, msg, at)
		}
	}
}

func TestReadOfChains(t *testing.T) {
	msg := "\x00"
	for last := 0; len(msg) <= limit; {
		at := len(msg)
		msg += pointer(last)
		if at < 300 || at > limit-10 {
			checkRead(t, msg, at, "\x00", at+2, api.OK)
			checkNone(t, "\xc0"+msg[1:], at)
		}
		last = at
	}
}

func TestReadOfChainsWithLabels(t *testing.T) {
	msg, n, last := "\x01z\x00", "\x01z\x00", 0
	for i := range 200 {
		at := len(msg)
		label := string([]byte{1, byte(i)})
		msg += label + pointer(last)
		n = label + n
		last = at
		if len(n) <= maxName {
			checkRead(t, msg+"more", at, n, at+4, api.OK)
		} else {
			checkNone(t, msg, at)
		}
	}
}

func TestReadOfPointersToHighOffsets(t *testing.T) {
	n := "\x02ex\x00"
	for _, to := range []int{1, 255, 256, 257, 0x0fff, 0x1000, 0x2000, 0x3ffd, 0x3ffe, 0x3fff} {
		msg := pad(to) + n
		for _, more := range []int{0, 1, 100000} {
			at := len(msg) + more
			checkRead(t, msg+pad(more)+pointer(to)+"z", at, n, at+2, api.OK)
			checkRead(t, msg+pad(more)+"\x01a"+pointer(to), at, "\x01a"+n, at+4, api.OK)
			checkRead(t, msg+pad(more)+n, at, n, at+4, api.OK)
		}
	}
}

func TestReadOfNamesOfMaxNameBytes(t *testing.T) {
	checkRead(t, longest, 0, longest, 255, api.OK)
	checkRead(t, longest+"\x00", 0, longest, 255, api.OK)
	checkNone(t, tooLong, 0)
	single := strings.Repeat("\x01a", 127) + "\x00"
	checkRead(t, single, 0, single, 255, api.OK)
	checkNone(t, "\x01a"+single, 0)
	checkNone(t, "\x02ab"+single[2:], 0)
	for at := 0; at < 255; at += 2 {
		checkRead(t, "\x01a"+single, at+2, single[at:], 257, api.OK)
	}
	if len(longest) != 255 || len(tooLong) != 256 || len(single) != 255 {
		t.Errorf("%d, %d and %d bytes", len(longest), len(tooLong), len(single))
	}
}

func TestReadOfNamesOfMaxNameBytesByPointers(t *testing.T) {
	end := longest[128:]
	checkRead(t, end+longest[:128]+"\xc0\x00", len(end), longest, len(end)+130, api.OK)
	end = tooLong[128:]
	checkNone(t, end+tooLong[:128]+"\xc0\x00", len(end))
	checkRead(t, longest+"\xc0\x00", 255, longest, 257, api.OK)
	checkNone(t, longest+"\x01a\xc0\x00", 255)
	checkRead(t, longest+"\x3f"+strings.Repeat("x", 63)+"\xc0\x40", 255, "\x3f"+strings.Repeat("x", 63)+longest[64:], 255+66, api.OK)
	for size := 1; size <= 63; size++ {
		label := wire(strings.Repeat("x", size))[:1+size]
		msg := longest[64:] + label + "\xc0\x00"
		checkRead(t, msg, 191, label+longest[64:], 191+size+3, api.OK)
		msg = tooLong[64:] + label + "\xc0\x00"
		if size == 63 {
			checkNone(t, msg, 192)
		} else {
			checkRead(t, msg, 192, label+tooLong[64:], 192+size+3, api.OK)
		}
	}
	single := strings.Repeat("\x01a", 126)
	checkRead(t, single+"\x00\x01b\xc0\x00", 253, "\x01b"+single+"\x00", 257, api.OK)
	checkNone(t, single+"\x00\x02bc\xc0\x00", 253)
	checkNone(t, single+"\x00\x01b\x01c\xc0\x00", 253)
}

// P9.2

func TestNewPacker(t *testing.T) {
	checkBytes(t, pack.New(), "")
}

func TestRaw(t *testing.T) {
	p := pack.New()
	checkRaw(t, p, "")
	checkRaw(t, p, "a")
	checkRaw(t, p, "")
	checkRaw(t, p, "\x00")
	checkRaw(t, p, "bc\xff\xc0\x00")
	checkBytes(t, p, "a\x00bc\xff\xc0\x00")
	all := ""
	for c := range 256 {
		all += string([]byte{byte(c)})
	}
	checkRaw(t, p, all)
	checkRaw(t, p, strings.Repeat(all, 1000))
	checkRaw(t, p, "")
	checkBytes(t, p, "a\x00bc\xff\xc0\x00"+strings.Repeat(all, 1001))
}

func TestNameOfTheExample(t *testing.T) {
	p := pack.New()
	checkName(t, p, "\x01a\x01b\x00", true, "\x01a\x01b\x00")
	checkName(t, p, "\x01c\x01b\x00", true, "\x01c\xc0\x02")
	checkBytes(t, p, "\x01a\x01b\x00\x01c\xc0\x02")
}

func TestNameOfWhatIsNoName(t *testing.T) {
	p := pack.New()
	for _, n := range wrong {
		checkNoName(t, p, n)
	}
	checkBytes(t, p, "")
	checkName(t, p, "\x02ex\x00", true, "\x02ex\x00")
	for _, n := range wrong {
		checkNoName(t, p, n)
	}
	checkBytes(t, p, "\x02ex\x00")
}

func TestNameOfWhatIsNoNameMakesNothingKnown(t *testing.T) {
	p := pack.New()
	checkRaw(t, p, "x")
	checkNoName(t, p, "\x01a\x01b\x00\x00")
	checkNoName(t, p, "\x01a\x01b")
	checkNoName(t, p, "\x01a"+tooLong)
	checkName(t, p, "\x01a\x01b\x00", true, "\x01a\x01b\x00")
	checkName(t, p, tooLong[64:], true, tooLong[64:])
	checkName(t, p, "\x01b\x00", true, "\xc0\x03")
}

func TestNameOfTheRoot(t *testing.T) {
	p := pack.New()
	for _, may := range []bool{true, true, false, false, true} {
		checkName(t, p, "\x00", may, "\x00")
	}
	checkName(t, p, "\x01a\x00", true, "\x01a\x00")
	checkName(t, p, "\x00", true, "\x00")
	checkName(t, p, "\x01b\x00", true, "\x01b\x00")
	checkBytes(t, p, "\x00\x00\x00\x00\x00\x01a\x00\x00\x01b\x00")
}

func TestNameTwice(t *testing.T) {
	n := "\x03wWw\x02Ex\x00"
	p := pack.New()
	checkName(t, p, n, true, n)
	checkName(t, p, n, true, "\xc0\x00")
	checkName(t, p, n, false, n)
	checkName(t, p, n, true, "\xc0\x00")
	checkName(t, p, n, false, n)
	p = pack.New()
	checkRaw(t, p, "xyz")
	checkName(t, p, n, false, n)
	checkName(t, p, n, false, n)
	checkName(t, p, n, true, "\xc0\x03")
}

func TestNameWithAKnownSuffix(t *testing.T) {
	p := pack.New()
	checkRaw(t, p, "xyz")
	checkName(t, p, "\x01a\x02bc\x03def\x00", true, "\x01a\x02bc\x03def\x00")
	checkName(t, p, "\x02bc\x03def\x00", true, "\xc0\x05")
	checkName(t, p, "\x03def\x00", true, "\xc0\x08")
	checkName(t, p, "\x01b\x02bc\x03def\x00", true, "\x01b\xc0\x05")
	checkName(t, p, "\x01a\x03def\x00", true, "\x01a\xc0\x08")
	checkName(t, p, "\x01x\x01y\x01a\x02bc\x03def\x00", true, "\x01x\x01y\xc0\x03")
}

// Only what goes on to the end of a name is known.
func TestNameWithWhatIsNoKnownSuffix(t *testing.T) {
	p := pack.New()
	checkName(t, p, "\x01a\x02bc\x03def\x00", true, "\x01a\x02bc\x03def\x00")
	for _, n := range []string{
		"\x01a\x00",
		"\x01a\x02bc\x00",
		"\x03ef\x00\x00",
		"\x02ef\x00",
		"\x02de\x00",
		"\x01c\x00",
		"\x06bc\x03def\x00",
		"\x02bc\x03deg\x00",
		"\x03\x03de\x00",
	} {
		checkName(t, p, n, true, n)
	}
}

func TestNameDistinguishesCase(t *testing.T) {
	p := pack.New()
	checkName(t, p, "\x01a\x01b\x00", true, "\x01a\x01b\x00")
	checkName(t, p, "\x01a\x01B\x00", true, "\x01a\x01B\x00")
	checkName(t, p, "\x01A\x01b\x00", true, "\x01A\xc0\x02")
	checkName(t, p, "\x01A\x01B\x00", true, "\x01A\xc0\x07")
	checkName(t, p, "\x01A\x01b\x00", true, "\xc0\x0a")
	checkName(t, p, "\x01A\x01B\x00", true, "\xc0\x0e")
	checkName(t, p, "\x01b\x00", true, "\xc0\x02")
	checkName(t, p, "\x01B\x00", true, "\xc0\x07")
}

func TestNameDistinguishesBytesThatAreNoText(t *testing.T) {
	p := pack.New()
	checkName(t, p, "\x01\xff\x00", true, "\x01\xff\x00")
	checkName(t, p, "\x01\xfe\x00", true, "\x01\xfe\x00")
	checkName(t, p, "\x03\xef\xbf\xbd\x00", true, "\x03\xef\xbf\xbd\x00")
	checkName(t, p, "\x01\x00\x00", true, "\x01\x00\x00")
	checkName(t, p, "\x02\xc0\x00\x00", true, "\x02\xc0\x00\x00")
	checkName(t, p, "\x01\xff\x00", true, "\xc0\x00")
	checkName(t, p, "\x01\xfe\x00", true, "\xc0\x03")
	checkName(t, p, "\x03\xef\xbf\xbd\x00", true, "\xc0\x06")
	checkName(t, p, "\x01\x00\x00", true, "\xc0\x0b")
	checkName(t, p, "\x02\xc0\x00\x00", true, "\xc0\x0e")
}

// A label may contain the bytes of a name, but the name that begins in the middle of the label is not known.
func TestNameDoesNotKnowTheMiddleOfALabel(t *testing.T) {
	p := pack.New()
	checkName(t, p, "\x03x\x01b\x00", true, "\x03x\x01b\x00")
	checkName(t, p, "\x01b\x00", true, "\x01b\x00")
	checkName(t, p, "\x03\x01c\x00\x00", true, "\x03\x01c\x00\x00")
	checkName(t, p, "\x01c\x00", true, "\x01c\x00")
}

func TestNameWithoutPointersBecomesKnown(t *testing.T) {
	p := pack.New()
	checkName(t, p, "\x01a\x01b\x01c\x00", false, "\x01a\x01b\x01c\x00")
	checkName(t, p, "\x01b\x01c\x00", true, "\xc0\x02")
	checkName(t, p, "\x01c\x00", true, "\xc0\x04")
	checkName(t, p, "\x01a\x01b\x01c\x00", true, "\xc0\x00")
	checkName(t, p, "\x01d\x01b\x01c\x00", false, "\x01d\x01b\x01c\x00")
	checkName(t, p, "\x01d\x01b\x01c\x00", true, "\xc0\x0d")
	checkName(t, p, "\x01e\x01d\x01b\x01c\x00", true, "\x01e\xc0\x0d")
	checkName(t, p, "\x01b\x01c\x00", true, "\xc0\x02")
}

func TestNameWithAPointerBecomesKnown(t *testing.T) {
	p := pack.New()
	checkName(t, p, "\x01b\x00", true, "\x01b\x00")
	checkName(t, p, "\x01x\x01y\x01b\x00", true, "\x01x\x01y\xc0\x00")
	checkName(t, p, "\x01y\x01b\x00", true, "\xc0\x05")
	checkName(t, p, "\x01x\x01y\x01b\x00", true, "\xc0\x03")
	checkName(t, p, "\x01z\x01y\x01b\x00", true, "\x01z\xc0\x05")
	checkName(t, p, "\x01w\x01z\x01y\x01b\x00", true, "\x01w\xc0\x0d")
}

func TestNameOfTheSameLabels(t *testing.T) {
	p := pack.New()
	checkName(t, p, "\x01a\x01a\x01a\x00", true, "\x01a\x01a\x01a\x00")
	checkName(t, p, "\x01a\x00", true, "\xc0\x04")
	checkName(t, p, "\x01a\x01a\x00", true, "\xc0\x02")
	checkName(t, p, "\x01a\x01a\x01a\x01a\x01a\x00", true, "\x01a\x01a\xc0\x00")
	checkName(t, p, "\x01a\x01a\x01a\x01a\x00", true, "\xc0\x0d")
}

func TestNameOfTheFirstOfTwoOffsets(t *testing.T) {
	p := pack.New()
	checkRaw(t, p, "x")
	checkName(t, p, "\x01b\x00", false, "\x01b\x00")
	checkName(t, p, "\x01a\x01b\x00", false, "\x01a\x01b\x00")
	checkName(t, p, "\x01b\x00", false, "\x01b\x00")
	checkName(t, p, "\x01b\x00", true, "\xc0\x01")
	checkName(t, p, "\x01a\x01b\x00", false, "\x01a\x01b\x00")
	checkName(t, p, "\x01a\x01b\x00", true, "\xc0\x04")
	checkName(t, p, "\x01c\x01b\x00", true, "\x01c\xc0\x01")
}

func TestRawBecomesNotKnown(t *testing.T) {
	p := pack.New()
	checkRaw(t, p, "\x01a\x01b\x00")
	checkName(t, p, "\x01a\x01b\x00", true, "\x01a\x01b\x00")
	checkName(t, p, "\x01b\x00", true, "\xc0\x07")
	checkRaw(t, p, "\x01c\x00")
	checkName(t, p, "\x01c\x01b\x00", true, "\x01c\xc0\x07")
	checkName(t, p, "\x01c\x00", true, "\x01c\x00")
}

// A name is put at each offset near the limit: it becomes known where it is below it.
func TestNameNearTheLimit(t *testing.T) {
	n := "\x01a\x01b\x00"
	again := func(n string, at int) string {
		if at < limit {
			return pointer(at)
		}
		return n
	}
	for at := limit - 10; at <= limit+10; at++ {
		for _, may := range []bool{true, false} {
			p := pack.New()
			checkRaw(t, p, pad(at))
			checkName(t, p, n, may, n)
			checkName(t, p, n, true, again(n, at))
			checkName(t, p, n[2:], true, again(n[2:], at+2))
			checkName(t, p, n, true, again(n, at))
		}
	}
}

func TestNameThatBeginsBelowTheLimitAndEndsAboveIt(t *testing.T) {
	n := "\x01a\x01b\x01c\x01d\x00"
	p := pack.New()
	checkRaw(t, p, pad(limit-3))
	checkName(t, p, n, true, n)
	checkName(t, p, n, true, "\xff\xfd")
	checkName(t, p, n[2:], true, "\xff\xff")
	checkName(t, p, n[4:], true, n[4:])
	checkName(t, p, n[6:], true, n[6:])
	checkName(t, p, "\x01e"+n[2:], true, "\x01e\xff\xff")
	checkName(t, p, "\x01e"+n[4:], true, "\x01e"+n[4:])
	checkName(t, p, "\x01e"+n[2:], true, "\x01e\xff\xff")

	p = pack.New()
	checkRaw(t, p, pad(limit-4))
	checkName(t, p, n, false, n)
	checkName(t, p, n[2:], true, "\xff\xfe")
	checkName(t, p, n[4:], true, n[4:])
	checkName(t, p, n[4:], true, n[4:])
}

func TestNameKnownFromBelowTheLimitIsUsedAboveIt(t *testing.T) {
	p := pack.New()
	checkRaw(t, p, "x")
	checkName(t, p, "\x02ex\x00", true, "\x02ex\x00")
	checkRaw(t, p, pad(100000))
	checkName(t, p, "\x02ex\x00", true, "\xc0\x01")
	checkName(t, p, "\x01a\x02ex\x00", true, "\x01a\xc0\x01")
	checkName(t, p, "\x01a\x02ex\x00", true, "\x01a\xc0\x01")
	checkName(t, p, "\x01b\x00", true, "\x01b\x00")
	checkName(t, p, "\x01b\x00", true, "\x01b\x00")
}

func TestNameOfMaxNameBytes(t *testing.T) {
	p := pack.New()
	checkName(t, p, longest, true, longest)
	checkName(t, p, longest, true, "\xc0\x00")
	checkName(t, p, longest[64:], true, "\xc0\x40")
	single := strings.Repeat("\x01a", 127) + "\x00"
	p = pack.New()
	checkName(t, p, single[252:], true, single[252:])
	checkName(t, p, single, true, single[:252]+"\xc0\x00")
	checkName(t, p, single[2:], true, "\xc0\x05")
	checkNoName(t, p, "\x01a"+single)
}

func TestTwoPackersAtOnce(t *testing.T) {
	p, q := pack.New(), pack.New()
	checkName(t, p, "\x01a\x01b\x00", true, "\x01a\x01b\x00")
	checkBytes(t, q, "")
	checkRaw(t, q, "xyz")
	checkBytes(t, p, "\x01a\x01b\x00")
	checkName(t, q, "\x01b\x00", true, "\x01b\x00")
	checkName(t, p, "\x01c\x01b\x00", true, "\x01c\xc0\x02")
	checkName(t, q, "\x01c\x01b\x00", true, "\x01c\xc0\x03")
	checkName(t, p, "\x01c\x01b\x00", true, "\xc0\x05")
	checkName(t, q, "\x01a\x01b\x00", true, "\x01a\xc0\x03")
	checkBytes(t, p, "\x01a\x01b\x00\x01c\xc0\x02\xc0\x05")
	checkBytes(t, q, "xyz\x01b\x00\x01c\xc0\x03\x01a\xc0\x03")
}

// P9.3

// every calls f with each string of these bytes that has at most size bytes.
func every(alphabet string, size int, f func(string)) {
	all := []string{""}
	for len(all[0]) <= size {
		var longer []string
		for _, s := range all {
			f(s)
			for i := range len(alphabet) {
				longer = append(longer, s+alphabet[i:i+1])
			}
		}
		all = longer
	}
}

func TestReadOfEveryShortMessage(t *testing.T) {
	every("\x00\x01\x02\x03\x40\xc0\xc1", 6, func(msg string) { checkEverywhere(t, msg) })
}

func TestReadOfRandomMessages(t *testing.T) {
	r := rand.New(rand.NewSource(91))
	for range 20000 {
		b := make([]byte, r.Intn(60))
		for i := range b {
			switch r.Intn(4) {
			case 0:
				b[i] = 0xc0
			case 1:
				b[i] = byte(r.Intn(256))
			default:
				b[i] = byte(r.Intn(4))
			}
		}
		checkEverywhere(t, string(b))
	}
}

// The parts of random messages mostly lead to other parts, and are often too long together.
func TestReadOfRandomParts(t *testing.T) {
	r := rand.New(rand.NewSource(92))
	for range 300 {
		msg := ""
		var begins []int
		for len(msg) < 1000 {
			begins = append(begins, len(msg))
			for range r.Intn(3) {
				msg += wire(strings.Repeat("x", 1+r.Intn(63)))
				msg = msg[:len(msg)-1]
			}
			if r.Intn(8) == 0 {
				msg += "\x00"
			} else {
				msg += pointer(max(0, begins[r.Intn(len(begins))]-r.Intn(40)/39))
			}
		}
		checkEverywhere(t, msg)
	}
}

// A reading ends where a name would be too long, however many labels follow.
func TestReadOfManyLabels(t *testing.T) {
	labels := strings.Repeat("\x01a", 1000000)
	checkNone(t, labels, 0)
	checkNone(t, labels+"\x00", 0)
	checkNone(t, labels+"\x00\xc0\x00", len(labels)+1)
	checkRead(t, labels+"\x00", len(labels)-4, "\x01a\x01a\x00", len(labels)+1, api.OK)
}

func randomName(r *rand.Rand) string {
	parts := []string{"a", "A", "b", "ab", "\x00", "\x01a", "\xc0\x00", "\xff"}
	var labels []string
	for range r.Intn(5) {
		labels = append(labels, parts[r.Intn(1+r.Intn(len(parts)))])
	}
	return wire(labels...)
}

// put is a name and where it was put.
type put struct {
	name     string
	at, next int
}

func TestRandomPackers(t *testing.T) {
	r := rand.New(rand.NewSource(93))
	for range 600 {
		p, m := pack.New(), &model{}
		if r.Intn(3) == 0 {
			m.msg = pad(limit - r.Intn(100))
			p.Raw(m.msg)
		}
		var puts []put
		for range r.Intn(50) {
			at := len(m.msg)
			n := randomName(r)
			may := r.Intn(4) > 0
			switch r.Intn(6) {
			case 0:
				p.Raw(n)
				m.msg += n
			case 1:
				n = wrong[r.Intn(len(wrong))]
				fallthrough
			default:
				want := m.put(n, may)
				if e := p.Name(n, may); e != want {
					t.Errorf("Name(%s, %v) = %v; want %v", brief(n), may, e, want)
				}
				if want == api.OK {
					puts = append(puts, put{n, at, len(m.msg)})
				}
			}
			checkBytes(t, p, m.msg)
		}
		for _, x := range puts {
			checkRead(t, p.Bytes(), x.at, x.name, x.next, api.OK)
			checkRead(t, p.Bytes()+"more", x.at, x.name, x.next, api.OK)
		}
	}
}

func TestEveryShortNameIsReadBack(t *testing.T) {
	var names []string
	every("\x00\x01\x02aA", 5, func(n string) {
		if isName(n) {
			names = append(names, n)
		}
	})
	p, m := pack.New(), &model{}
	for _, n := range append(names, names...) {
		at := len(m.msg)
		m.put(n, true)
		checkName(t, p, n, true, m.msg[at:])
	}
}

// R5, R7

func TestBytesDoNotChangeAfterwards(t *testing.T) {
	p := pack.New()
	p.Raw("abc")
	b := p.Bytes()
	p.Name("\x01a\x00", true)
	p.Raw("def")
	if b != "abc" {
		t.Errorf("the bytes are %q", b)
	}
	checkBytes(t, p, "abc\x01a\x00def")
}

func TestCallsDoNotDependOnEarlierOnes(t *testing.T) {
	for range 3 {
		checkRead(t, "\x01a\x00\x01b\xc0\x00", 3, "\x01b\x01a\x00", 7, api.OK)
		checkNone(t, "\x01a\x00\x01b\xc0\x03", 3)
		checkRead(t, "\x00", 0, "\x00", 1, api.OK)
		p := pack.New()
		checkBytes(t, p, "")
		checkName(t, p, "\x01a\x01b\x00", true, "\x01a\x01b\x00")
		checkName(t, p, "\x01b\x00", true, "\xc0\x02")
	}
}
