package frame_test

import (
	"encoding/binary"
	"fmt"
	"hash/crc32"
	"math"
	"math/rand"
	"slices"
	"strings"
	"testing"

	"beadroll/api"
	"beadroll/frame"
)

const maxFrame = 16777216

// lengths are numbers of bytes: none, few, and both sides of what one and two bytes of a number hold.
var lengths = []int{0, 1, 2, 3, 4, 7, 8, 9, 127, 128, 255, 256, 257, 1000, 65535, 65536, 65537}

// lists are lists of bytes to be framed.
var lists = [][]string{
	nil,
	{""},
	{"a"},
	{"", "", ""},
	{"abc", "", "de"},
	{"", "abc", ""},
	{"abc", "abc", "abc"},
	{"\x00\x00\x00\x00", "\xff\xff\xff\xff\xff\xff\xff\xff", "\x00"},
	{"\x00\x00\x00\x00\x21\x44\xdf\x1c", "the bytes before are a frame themselves"},
	{strings.Repeat("b", 255), strings.Repeat("c", 256), strings.Repeat("d", 40)},
}

// noFrames are strings that do not begin with a frame.
func noFrames() []string {
	l := []string{
		"\x00",
		"\x00\x00\x00\x00",
		"\x00\x00\x00\x00\x21\x44\xdf",
		"\x00\x00\x00\x00\x21\x44\xdf\x1d",
		strings.Repeat("\x00", 8),
		strings.Repeat("\x00", 100),
		strings.Repeat("\xff", 8),
		strings.Repeat("\xff", 100),
		head(maxFrame+1, 0),
		"no frame begins here",
	}
	whole := model("abcde")
	for n := 1; n < len(whole); n++ {
		l = append(l, whole[:n])
	}
	for bit := 8 * 4; bit < 8*len(whole); bit++ {
		l = append(l, flip(whole, bit))
	}
	return l
}

func word(n uint32) string {
	return string(binary.BigEndian.AppendUint32(nil, n))
}

func head(number, sum uint32) string {
	return word(number) + word(sum)
}

// model is the chapter's definition of a frame, for any number of bytes, with the checksum of Go's library.
func model(b string) string {
	number := word(uint32(len(b)))
	return number + word(crc32.ChecksumIEEE([]byte(number+b))) + b
}

func models(l []string) string {
	b := ""
	for _, s := range l {
		b += model(s)
	}
	return b
}

// modelFirst reads by offsets the frame with which b begins.
func modelFirst(b string) (string, int, api.Errno) {
	if len(b) < 8 {
		return "", 0, api.ErrForm
	}
	n := int64(binary.BigEndian.Uint32([]byte(b)))
	if n > maxFrame || n+8 > int64(len(b)) {
		return "", 0, api.ErrForm
	}
	if s := b[8 : 8+n]; b[:8+n] == model(s) {
		return s, int(n) + 8, api.OK
	}
	return "", 0, api.ErrSum
}

func modelScan(b string) ([]string, int) {
	var l []string
	end := 0
	for s, n, e := modelFirst(b); e == api.OK; s, n, e = modelFirst(b[end:]) {
		l = append(l, s)
		end += n
	}
	return l, end
}

// flip changes one bit of b.
func flip(b string, bit int) string {
	c := []byte(b)
	c[bit/8] ^= 128 >> (bit % 8)
	return string(c)
}

func randomBytes(r *rand.Rand, n int) string {
	b := make([]byte, n)
	r.Read(b)
	return string(b)
}

// brief is s for a message, without most of a long text.
func brief(s string) string {
	if len(s) > 40 {
		return fmt.Sprintf("%q.. (%d bytes)", s[:40], len(s))
	}
	return fmt.Sprintf("%q", s)
}

func briefs(l []string) string {
	var b []string
	for _, s := range l {
		b = append(b, brief(s))
	}
	if len(b) > 10 {
		b = append(b[:10], fmt.Sprintf(".. (%d strings)", len(l)))
	}
	return "[" + strings.Join(b, " ") + "]"
}

func checkFrame(t *testing.T, b, want string, wantE api.Errno) {
	t.Helper()
	if got, e := frame.Frame(b); got != want || e != wantE {
		t.Errorf("Frame(%s) = %s, %v; want %s, %v", brief(b), brief(got), e, brief(want), wantE)
	}
}

func checkSize(t *testing.T, b string, want int) {
	t.Helper()
	if got := frame.Size(b); got != want {
		t.Errorf("Size(%s) = %d; want %d", brief(b), got, want)
	}
}

func checkFirst(t *testing.T, b, want string, wantN int, wantE api.Errno) {
	t.Helper()
	if got, n, e := frame.First(b); got != want || n != wantN || e != wantE {
		t.Errorf("First(%s) = %s, %d, %v; want %s, %d, %v", brief(b), brief(got), n, e, brief(want), wantN, wantE)
	}
}

func checkScan(t *testing.T, b string, want []string, wantEnd int) {
	t.Helper()
	if got, end := frame.Scan(b); !slices.Equal(got, want) || end != wantEnd {
		t.Errorf("Scan(%s) = %s, %d; want %s, %d", brief(b), briefs(got), end, briefs(want), wantEnd)
	}
}

// P6.1

func TestFrameOfTheEmptyString(t *testing.T) {
	checkFrame(t, "", "\x00\x00\x00\x00\x21\x44\xdf\x1c", api.OK)
	checkSize(t, "", 8)
}

func TestFrameOfKnownStrings(t *testing.T) {
	checkFrame(t, "a", "\x00\x00\x00\x01\xe5\x8c\x97\x92a", api.OK)
	checkFrame(t, "\x00", "\x00\x00\x00\x01\xdf\x39\xc6\x5c\x00", api.OK)
	checkFrame(t, "abc", "\x00\x00\x00\x03\x45\xbc\xe8\x40abc", api.OK)
	checkFrame(t, "123456789", "\x00\x00\x00\x09\xde\x9c\x40\xc0123456789", api.OK)
	checkFrame(t, strings.Repeat("\xff", 8), "\x00\x00\x00\x08\x84\x6b\x64\x02"+strings.Repeat("\xff", 8), api.OK)
	checkSize(t, "a", 9)
	checkSize(t, "abc", 11)
	checkSize(t, "123456789", 17)
}

func TestFrameAndSizeOfEveryLength(t *testing.T) {
	r := rand.New(rand.NewSource(61))
	for _, n := range lengths {
		for _, b := range []string{strings.Repeat("\x00", n), strings.Repeat("\xff", n), randomBytes(r, n)} {
			checkFrame(t, b, model(b), api.OK)
			checkSize(t, b, n+8)
		}
	}
}

func TestFrameOfRandomStrings(t *testing.T) {
	r := rand.New(rand.NewSource(62))
	for range 2000 {
		b := randomBytes(r, r.Intn(300))
		checkFrame(t, b, model(b), api.OK)
		checkSize(t, b, len(model(b)))
	}
}

func TestFrameOfAFrame(t *testing.T) {
	b := model("abc")
	checkFrame(t, b, model(b), api.OK)
	checkSize(t, b, 19)
}

func TestFrameOfMaxFrameBytes(t *testing.T) {
	b := strings.Repeat("abcdefgh", maxFrame/8)
	checkFrame(t, b, model(b), api.OK)
	checkFrame(t, b[1:], model(b[1:]), api.OK)
	checkSize(t, b, maxFrame+8)
	checkSize(t, b[1:], maxFrame+7)
	if got, _ := frame.Frame(b); !strings.HasPrefix(got, "\x01\x00\x00\x00") || len(got) != maxFrame+8 {
		t.Errorf("the frame of MaxFrame bytes is %s", brief(got))
	}
}

func TestFrameOfMoreThanMaxFrameBytes(t *testing.T) {
	b := strings.Repeat("abcdefgh", maxFrame/4)
	checkFrame(t, b[:maxFrame+1], "", api.ErrLong)
	checkFrame(t, b, "", api.ErrLong)
	checkSize(t, b[:maxFrame+1], maxFrame+9)
	checkSize(t, b, 2*maxFrame+8)
}

// P6.2: First

func TestFirstOfKnownFrames(t *testing.T) {
	checkFirst(t, "\x00\x00\x00\x00\x21\x44\xdf\x1c", "", 8, api.OK)
	checkFirst(t, "\x00\x00\x00\x03\x45\xbc\xe8\x40abc", "abc", 11, api.OK)
	checkFirst(t, "\x00\x00\x00\x09\xde\x9c\x40\xc0123456789", "123456789", 17, api.OK)
}

func TestFirstOfEveryLength(t *testing.T) {
	r := rand.New(rand.NewSource(63))
	for _, n := range lengths {
		b := randomBytes(r, n)
		checkFirst(t, model(b), b, n+8, api.OK)
	}
}

func TestFirstOfFewerThanEightBytes(t *testing.T) {
	for _, b := range []string{model(""), model("abc"), strings.Repeat("\x00", 8), strings.Repeat("\xff", 8), head(maxFrame+1, 0)} {
		for n := range 8 {
			checkFirst(t, b[:n], "", 0, api.ErrForm)
		}
	}
}

func TestFirstOfANumberAboveMaxFrame(t *testing.T) {
	for _, number := range []uint32{maxFrame + 1, maxFrame + 2, 2 * maxFrame, math.MaxInt32, 1 << 31, 1<<31 + 1, math.MaxUint32 - 7, math.MaxUint32} {
		for _, b := range []string{"", "a", "abcdefgh", strings.Repeat("a", 300)} {
			checkFirst(t, head(number, 0)+b, "", 0, api.ErrForm)
			checkFirst(t, head(number, crc32.ChecksumIEEE([]byte(word(number)+b)))+b, "", 0, api.ErrForm)
		}
	}
}

func TestFirstOfANumberAboveMaxFrameWithAllItsBytes(t *testing.T) {
	b := model(strings.Repeat("a", maxFrame+1))
	checkFirst(t, b, "", 0, api.ErrForm)
	checkFirst(t, b+"rest", "", 0, api.ErrForm)
}

func TestFirstOfMaxFrameBytes(t *testing.T) {
	s := strings.Repeat("abcdefgh", maxFrame/8)
	b := model(s)
	checkFirst(t, b, s, maxFrame+8, api.OK)
	checkFirst(t, b+"rest", s, maxFrame+8, api.OK)
	checkFirst(t, b[:len(b)-1], "", 0, api.ErrForm)
	checkFirst(t, b[:8], "", 0, api.ErrForm)
	checkFirst(t, flip(b, 8*len(b)-1), "", 0, api.ErrSum)
}

func TestFirstOfTooFewBytesForTheFrame(t *testing.T) {
	for _, s := range []string{"", "a", "abc", strings.Repeat("b", 255), strings.Repeat("c", 256)} {
		b := model(s)
		for n := range len(b) {
			checkFirst(t, b[:n], "", 0, api.ErrForm)
		}
		checkFirst(t, b, s, len(b), api.OK)
	}
}

func TestFirstOfBytesAfterTheFrame(t *testing.T) {
	for _, s := range []string{"", "abc", strings.Repeat("b", 300)} {
		b := model(s)
		for _, after := range noFrames() {
			checkFirst(t, b+after, s, len(b), api.OK)
		}
		checkFirst(t, b+b, s, len(b), api.OK)
		checkFirst(t, b+model("other"), s, len(b), api.OK)
	}
}

func TestFirstOfAWrongChecksum(t *testing.T) {
	checkFirst(t, "\x00\x00\x00\x00\x00\x00\x00\x00", "", 0, api.ErrSum)
	checkFirst(t, "\x00\x00\x00\x00\xff\xff\xff\xff", "", 0, api.ErrSum)
	for _, s := range []string{"", "a", "abc", strings.Repeat("\x00", 50)} {
		b := model(s)
		for bit := 8 * 4; bit < 8*len(b); bit++ {
			checkFirst(t, flip(b, bit), "", 0, api.ErrSum)
			checkFirst(t, flip(b, bit)+"after", "", 0, api.ErrSum)
		}
	}
}

func TestFirstOfTheChecksumOfOtherBytes(t *testing.T) {
	s := "abc"
	number := word(3)
	checkFirst(t, number+word(crc32.ChecksumIEEE([]byte(s)))+s, "", 0, api.ErrSum)
	checkFirst(t, number+word(crc32.ChecksumIEEE([]byte(number)))+s, "", 0, api.ErrSum)
	checkFirst(t, number+word(crc32.ChecksumIEEE([]byte(s+number)))+s, "", 0, api.ErrSum)
	checkFirst(t, number+word(^crc32.ChecksumIEEE([]byte(number+s)))+s, "", 0, api.ErrSum)
	reversed := []byte(model(s)[4:8])
	slices.Reverse(reversed)
	checkFirst(t, number+string(reversed)+s, "", 0, api.ErrSum)
}

// A number that is smaller than the frame's leaves enough bytes, so that only the checksum is wrong.
func TestFirstOfAChangedNumber(t *testing.T) {
	b := model("abcdefgh")
	for n := range uint32(8) {
		checkFirst(t, word(n)+b[4:], "", 0, api.ErrSum)
	}
	checkFirst(t, word(9)+b[4:], "", 0, api.ErrForm)
	checkFirst(t, word(9)+b[4:]+"i", "", 0, api.ErrSum)
	checkFirst(t, "\x08\x00\x00\x00"+b[4:], "", 0, api.ErrForm)
}

func TestFirstReturnsErrFormBeforeErrSum(t *testing.T) {
	checkFirst(t, head(1, 0), "", 0, api.ErrForm)
	checkFirst(t, head(4, 0)+"abc", "", 0, api.ErrForm)
	checkFirst(t, head(maxFrame, 0)+"abc", "", 0, api.ErrForm)
	checkFirst(t, head(maxFrame+1, 0)+strings.Repeat("a", maxFrame+1), "", 0, api.ErrForm)
	checkFirst(t, head(0, 0)[:7], "", 0, api.ErrForm)
	for bit := 8 * 4; bit < 8*10; bit++ {
		checkFirst(t, flip(model("abc"), bit)[:10], "", 0, api.ErrForm)
	}
}

// P6.2: Scan

func TestScanOfNoBytes(t *testing.T) {
	checkScan(t, "", nil, 0)
}

func TestScanOfOneFrame(t *testing.T) {
	checkScan(t, "\x00\x00\x00\x00\x21\x44\xdf\x1c", []string{""}, 8)
	checkScan(t, "\x00\x00\x00\x03\x45\xbc\xe8\x40abc", []string{"abc"}, 11)
}

func TestScanOfSeveralFrames(t *testing.T) {
	for _, l := range lists {
		b := models(l)
		checkScan(t, b, l, len(b))
	}
}

func TestScanOfFramesBeforeBytesThatAreNoFrame(t *testing.T) {
	for _, l := range lists {
		b := models(l)
		for _, after := range noFrames() {
			checkScan(t, b+after, l, len(b))
			checkScan(t, b+after+model("after"), l, len(b))
		}
	}
}

func TestScanOfFramesBeforeTooLongAFrame(t *testing.T) {
	b := models([]string{"abc", ""})
	checkScan(t, b+model(strings.Repeat("a", maxFrame+1)), []string{"abc", ""}, len(b))
	long := strings.Repeat("a", maxFrame)
	b += model(long) + model("d")
	checkScan(t, b, []string{"abc", "", long, "d"}, len(b))
}

func TestScanOfManyFrames(t *testing.T) {
	const n = 100000
	l := make([]string, n)
	for i := range l {
		l[i] = "abc"[:i%4]
	}
	checkScan(t, strings.Repeat(models([]string{"", "a", "ab", "abc"}), n/4), l, n/4*38)
}

// Random bytes are hardly ever a frame, so frames with small changes are tried.
func TestScanOfRandomStrings(t *testing.T) {
	r := rand.New(rand.NewSource(64))
	for range 20000 {
		b := ""
		for range r.Intn(5) {
			b += model(randomBytes(r, r.Intn(12)))
		}
		switch r.Intn(4) {
		case 0:
			b += randomBytes(r, r.Intn(20))
		case 1:
			b = b[:r.Intn(len(b)+1)]
		case 2:
			if b != "" {
				b = flip(b, r.Intn(8*len(b)))
			}
		}
		s, n, e := modelFirst(b)
		checkFirst(t, b, s, n, e)
		l, end := modelScan(b)
		checkScan(t, b, l, end)
	}
}

// P6.3

func TestWhatIsFramedIsFoundAgain(t *testing.T) {
	r := rand.New(rand.NewSource(65))
	all := ""
	var l []string
	for _, n := range append(lengths, maxFrame-1, maxFrame) {
		s := randomBytes(r, n)
		b, e := frame.Frame(s)
		if e != api.OK || len(b) != frame.Size(s) {
			t.Fatalf("the frame of %d bytes: %d bytes, %v", n, len(b), e)
		}
		checkFirst(t, b, s, frame.Size(s), api.OK)
		checkFirst(t, b+"after", s, frame.Size(s), api.OK)
		checkScan(t, b, []string{s}, frame.Size(s))
		all += b
		l = append(l, s)
	}
	checkScan(t, all, l, len(all))
}

func TestScanOfEachPrefixOfFrames(t *testing.T) {
	for _, l := range lists {
		b, whole, end := models(l), 0, 0 // so many frames are whole in the prefix, and end there
		for n := range len(b) + 1 {
			if whole < len(l) && n == end+8+len(l[whole]) {
				whole, end = whole+1, n
			}
			checkScan(t, b[:n], l[:whole], end)
		}
	}
}

func TestScanOfFramesWithAChangedBitInTheLastOne(t *testing.T) {
	for _, l := range lists[1:] {
		before := l[:len(l)-1]
		start := len(models(before))
		b := models(l)
		for bit := 8 * (start + 4); bit < 8*len(b); bit++ {
			checkScan(t, flip(b, bit), before, start)
		}
	}
}

func TestScanOfFramesWithAChangedBitInAnEarlierOne(t *testing.T) {
	b := models([]string{"abc", "de", "", "f"})
	for bit := 8 * (11 + 4); bit < 8*(11+10); bit++ {
		checkScan(t, flip(b, bit), []string{"abc"}, 11)
	}
	for bit := 8 * 4; bit < 8*11; bit++ {
		checkScan(t, flip(b, bit), nil, 0)
	}
}

// R5, R7

func TestResultsAreNewMemory(t *testing.T) {
	b := models([]string{"a", "b"})
	l, _ := frame.Scan(b)
	l[0] = "changed"
	checkScan(t, b, []string{"a", "b"}, 18)
}

func TestCallsDoNotDependOnEarlierOnes(t *testing.T) {
	for range 3 {
		checkFrame(t, "abc", "\x00\x00\x00\x03\x45\xbc\xe8\x40abc", api.OK)
		checkScan(t, model("abc")+"x", []string{"abc"}, 11)
		checkFirst(t, "x", "", 0, api.ErrForm)
		checkFirst(t, model("abc"), "abc", 11, api.OK)
	}
}
