package crc_test

import (
	"fmt"
	"hash/crc32"
	"math"
	"math/bits"
	"math/rand"
	"slices"
	"strings"
	"testing"

	"beadroll/crc"
)

const (
	example    = "123456789"
	exampleSum = 3421780262
	ones       = math.MaxUint32
)

// sums are checksums to go on from: both ends, single bits and ordinary ones.
var sums = []uint32{0, ones, 1, 2, 0x80, 0xff, 0x100, 0xffff, 0x10000, 1 << 31, ones - 1, ones >> 1, 0xedb88320, 0x12345678, exampleSum}

// lengths are numbers of bytes: none, few, and both sides of the size of a table.
var lengths = []int{0, 1, 2, 3, 4, 5, 7, 8, 9, 15, 16, 31, 64, 255, 256, 257, 1000}

// bitByBit is the chapter's definition, read bit by bit: the checksum of b after bytes whose checksum is sum.
func bitByBit(sum uint32, b string) uint32 {
	register := sum ^ ones
	for _, c := range []byte(b) {
		for k := range 8 {
			different := register%2 != uint32(c>>k)%2
			register /= 2
			if different {
				register ^= 0xedb88320
			}
		}
	}
	return register ^ ones
}

func randomBytes(r *rand.Rand, n int) string {
	b := make([]byte, n)
	r.Read(b)
	return string(b)
}

// brief is s for a message, without most of a long text.
func brief(s string) string {
	if len(s) > 40 {
		return fmt.Sprintf("%q.. (%d bytes)", s[:40], len(s))
	}
	return fmt.Sprintf("%q", s)
}

func checkSum(t *testing.T, b string, want uint32) {
	t.Helper()
	if got := crc.Sum(b); got != want {
		t.Errorf("Sum(%s) = %08x; want %08x", brief(b), got, want)
	}
}

func checkMore(t *testing.T, sum uint32, b string, want uint32) {
	t.Helper()
	if got := crc.More(sum, b); got != want {
		t.Errorf("More(%08x, %s) = %08x; want %08x", sum, brief(b), got, want)
	}
}

func checkParts(t *testing.T, l []string, want uint32) {
	t.Helper()
	if got := crc.Parts(l); got != want {
		t.Errorf("Parts of %d strings, %s together = %08x; want %08x", len(l), brief(strings.Join(l, "")), got, want)
	}
}

// P5.1: Sum

func TestSumOfTheEmptyString(t *testing.T) {
	checkSum(t, "", 0)
}

func TestSumOfTheExample(t *testing.T) {
	checkSum(t, example, exampleSum)
	checkSum(t, example, 0xcbf43926)
}

func TestSumOfKnownStrings(t *testing.T) {
	checkSum(t, "a", 0xe8b7be43)
	checkSum(t, "abc", 0x352441c2)
	checkSum(t, "message digest", 0x20159d7f)
	checkSum(t, "abcdefghijklmnopqrstuvwxyz", 0x4c2750bd)
	checkSum(t, "The quick brown fox jumps over the lazy dog", 0x414fa339)
	checkSum(t, "\x00", 0xd202ef8d)
	checkSum(t, "\xff", 0xff000000)
	checkSum(t, strings.Repeat("\x00", 32), 0x190a55ad)
	checkSum(t, strings.Repeat("\xff", 32), 0xff6cab0b)
}

func TestSumOfEveryByte(t *testing.T) {
	all := ""
	for c := range 256 {
		b := string([]byte{byte(c)})
		all += b
		checkSum(t, b, bitByBit(0, b))
	}
	checkSum(t, all, bitByBit(0, all))
}

func TestSumOfEveryPairOfBytes(t *testing.T) {
	for c := range 1 << 16 {
		b := string([]byte{byte(c >> 8), byte(c)})
		checkSum(t, b, bitByBit(0, b))
	}
}

func TestSumTellsZerosByTheirNumber(t *testing.T) {
	seen := map[uint32]int{}
	for n := range 1000 {
		s := crc.Sum(strings.Repeat("\x00", n))
		if k, ok := seen[s]; ok {
			t.Errorf("%d and %d zeros have the checksum %08x", k, n, s)
		}
		seen[s] = n
	}
}

func TestSumOfRandomStrings(t *testing.T) {
	r := rand.New(rand.NewSource(51))
	for range 3000 {
		b := randomBytes(r, r.Intn(300))
		checkSum(t, b, bitByBit(0, b))
		checkSum(t, b, crc32.ChecksumIEEE([]byte(b)))
	}
}

func TestSumOfALongString(t *testing.T) {
	b := randomBytes(rand.New(rand.NewSource(52)), 1<<24+5)
	checkSum(t, b, crc32.ChecksumIEEE([]byte(b)))
}

// P5.1: More

func TestMoreAfterTheEmptyString(t *testing.T) {
	checkMore(t, crc.Sum(""), "", 0)
	checkMore(t, crc.Sum(""), example, exampleSum)
	for _, b := range []string{"\x00", "\xff", "a", "\x00\x00\x00\x00", "\xff\xff\xff\xff"} {
		checkMore(t, crc.Sum(""), b, bitByBit(0, b))
	}
}

func TestMoreWithAnEmptyString(t *testing.T) {
	for _, sum := range sums {
		checkMore(t, sum, "", sum)
	}
}

func TestMoreWithASumOfZero(t *testing.T) {
	checkMore(t, 0, "\x00", 0xd202ef8d)
	checkMore(t, 0, "\xff", 0xff000000)
	checkMore(t, 0, "\xff\xff\xff\xff", ones)
	checkMore(t, 0, "abc", 0x352441c2)
}

func TestMoreWithASumOfAllOnes(t *testing.T) {
	// The register begins with zeros.
	checkMore(t, ones, "\x00", ones)
	checkMore(t, ones, strings.Repeat("\x00", 300), ones)
	checkMore(t, ones, "\x80", ones^0xedb88320)
	checkMore(t, ones, "\x01", bitByBit(ones, "\x01"))
	checkMore(t, ones, example, bitByBit(ones, example))
}

func TestMoreWithEverySumAndByte(t *testing.T) {
	for _, sum := range sums {
		for c := range 256 {
			b := string([]byte{byte(c)})
			checkMore(t, sum, b, bitByBit(sum, b))
		}
	}
}

func TestMoreWithEverySingleBitOfTheSum(t *testing.T) {
	for k := range 32 {
		for _, b := range []string{"\x00", "\x00\x00\x00\x00", "\xff", example} {
			checkMore(t, 1<<k, b, bitByBit(1<<k, b))
			checkMore(t, ones^1<<k, b, bitByBit(ones^1<<k, b))
		}
	}
}

func TestMoreWithRandomSums(t *testing.T) {
	r := rand.New(rand.NewSource(53))
	for range 3000 {
		sum, b := r.Uint32(), randomBytes(r, r.Intn(100))
		checkMore(t, sum, b, bitByBit(sum, b))
		checkMore(t, sum, b, crc32.Update(sum, crc32.IEEETable, []byte(b)))
	}
}

// P5.1: Parts

func TestPartsOfNoStrings(t *testing.T) {
	checkParts(t, nil, 0)
	checkParts(t, []string{}, 0)
	checkParts(t, []string{"spare"}[:0], 0)
}

func TestPartsOfEmptyStrings(t *testing.T) {
	checkParts(t, []string{""}, 0)
	checkParts(t, []string{"", ""}, 0)
	checkParts(t, make([]string, 100), 0)
	checkParts(t, []string{"", example, ""}, exampleSum)
	checkParts(t, []string{"", "", "1234", "", "", "56789", "", ""}, exampleSum)
}

func TestPartsOfOneString(t *testing.T) {
	checkParts(t, []string{example}, exampleSum)
	checkParts(t, []string{"\x00"}, 0xd202ef8d)
}

func TestPartsOfAStringCutAtEveryPlace(t *testing.T) {
	for i := range len(example) + 1 {
		checkParts(t, []string{example[:i], example[i:]}, exampleSum)
		for k := i; k <= len(example); k++ {
			checkParts(t, []string{example[:i], example[i:k], example[k:]}, exampleSum)
		}
	}
	checkParts(t, strings.Split(example, ""), exampleSum)
	b := randomBytes(rand.New(rand.NewSource(54)), 600)
	for i := range len(b) + 1 {
		checkParts(t, []string{b[:i], b[i:]}, bitByBit(0, b))
	}
}

func TestPartsInTheirOrder(t *testing.T) {
	checkParts(t, []string{"56789", "1234"}, bitByBit(0, "567891234"))
	checkParts(t, []string{"ab", "ab", "c"}, bitByBit(0, "ababc"))
}

func TestPartsOfManyStrings(t *testing.T) {
	l := make([]string, 200000)
	for i := range l {
		l[i] = "abc"[:i%4]
	}
	checkParts(t, l, crc32.ChecksumIEEE([]byte(strings.Join(l, ""))))
}

func TestPartsOfRandomStrings(t *testing.T) {
	r := rand.New(rand.NewSource(55))
	for range 1000 {
		l := make([]string, r.Intn(8))
		for i := range l {
			l[i] = randomBytes(r, r.Intn(20))
		}
		checkParts(t, l, bitByBit(0, strings.Join(l, "")))
	}
}

// R5

func TestPartsLeavesTheListAlone(t *testing.T) {
	l := append(make([]string, 0, 8), "b", "", "a")
	spare := l[:8]
	spare[3] = "spare"
	before := slices.Clone(spare)
	crc.Parts(l)
	if !slices.Equal(spare, before) {
		t.Errorf("the list became %q", spare)
	}
}

// R7

func TestCallsDoNotDependOnEarlierOnes(t *testing.T) {
	for range 3 {
		crc.More(0x12345678, "other bytes")
		checkSum(t, example, exampleSum)
		crc.Parts([]string{"other", "bytes"})
		checkMore(t, 0, example, exampleSum)
		crc.Sum("other bytes")
		checkParts(t, []string{example}, exampleSum)
	}
}

// P5.2: More goes on after Sum

func TestMoreGoesOnAfterSum(t *testing.T) {
	r := rand.New(rand.NewSource(56))
	for _, n := range lengths {
		for _, m := range lengths {
			a, b := randomBytes(r, n), randomBytes(r, m)
			checkMore(t, crc.Sum(a), b, crc.Sum(a+b))
			checkParts(t, []string{a, b}, crc.More(crc.Sum(a), b))
		}
	}
	for i := range len(example) + 1 {
		checkMore(t, crc.Sum(example[:i]), example[i:], exampleSum)
	}
}

func TestMoreByteByByte(t *testing.T) {
	b := randomBytes(rand.New(rand.NewSource(57)), 1000)
	sum := crc.Sum("")
	for i := range len(b) {
		sum = crc.More(sum, b[i:i+1])
		if sum != crc.Sum(b[:i+1]) {
			t.Fatalf("after %d bytes %08x; want %08x", i+1, sum, crc.Sum(b[:i+1]))
		}
	}
}

// P5.2: strings that differ

// flip changes those bits of b, from bit i on, that are ones in pattern. The bits are counted as the checksum takes them, the
// lowest one of each byte first: counted the other way, not every change within 32 bits is noticed.
func flip(b string, i int, pattern uint32) string {
	c := []byte(b)
	for k := range 32 {
		if pattern>>k&1 == 1 {
			c[(i+k)/8] ^= 1 << ((i + k) % 8)
		}
	}
	return string(c)
}

func checkDiffer(t *testing.T, a, b string) {
	t.Helper()
	if a == b {
		t.Fatalf("%s is compared with itself", brief(a))
	}
	if crc.Sum(a) == crc.Sum(b) {
		t.Errorf("%s and %s have the same checksum", brief(a), brief(b))
	}
}

// texts are strings of n bytes in which bits are changed.
func texts(n int) []string {
	r := rand.New(rand.NewSource(int64(n)))
	return []string{strings.Repeat("\x00", n), strings.Repeat("\xff", n), randomBytes(r, n)}
}

func TestStringsThatDifferInOneBit(t *testing.T) {
	for _, n := range []int{1, 2, 4, 5, 9, 64, 257} {
		for _, b := range texts(n) {
			for i := range 8 * n {
				checkDiffer(t, b, flip(b, i, 1))
			}
		}
	}
}

func TestStringsThatDifferInTheFirstOrLastBit(t *testing.T) {
	for _, n := range []int{1, 2, 8, 1000, 1 << 20} {
		for _, b := range texts(n) {
			first, last := flip(b, 0, 1), flip(b, 8*n-1, 1)
			checkDiffer(t, b, first)
			checkDiffer(t, b, last)
			checkDiffer(t, first, last)
		}
	}
}

func TestStringsThatDifferInTwoNearBits(t *testing.T) {
	for _, b := range texts(9) {
		for i := range 8 * len(b) {
			for k := 1; k < 32 && i+k < 8*len(b); k++ {
				checkDiffer(t, b, flip(b, i, 1|1<<k))
			}
		}
	}
}

func TestStringsThatDifferWithinConsecutiveBits(t *testing.T) {
	r := rand.New(rand.NewSource(58))
	patterns := []uint32{ones, 1 | 1<<31, 0x55555555, 0xaaaaaaaa, 0xedb88320, bits.Reverse32(0xedb88320), 0xff, 0xffff, 0xffffff, 0xff000000}
	for range 20 {
		patterns = append(patterns, r.Uint32()|1|1<<31, r.Uint32()|1)
	}
	for _, n := range []int{4, 5, 8, 33} {
		for _, b := range texts(n) {
			for _, p := range patterns {
				for i := range 8*n - 31 {
					checkDiffer(t, b, flip(b, i, p))
				}
			}
		}
	}
}

// Strings of which any two differ only within the same 32 bits.
func TestManyStringsThatDifferWithinTheSameBits(t *testing.T) {
	seen := map[uint32]uint32{}
	b := "before.1234.after"
	r := rand.New(rand.NewSource(59))
	for range 20000 {
		p := r.Uint32()
		sum := crc.Sum(flip(b, 8*5+3, p))
		if q, ok := seen[sum]; ok && q != p {
			t.Fatalf("the changes %08x and %08x have the checksum %08x", p, q, sum)
		}
		seen[sum] = p
	}
}

// The promise ends at 32 bits: the shortest change that is not noticed is the polynomial, with a bit before it.
func TestStringsThatDifferWithin33Bits(t *testing.T) {
	for _, b := range texts(9) {
		for i := range 8*len(b) - 32 {
			c := flip(flip(b, i, 1), i+1, 0xedb88320)
			if crc.Sum(b) != crc.Sum(c) {
				t.Errorf("%q and %q have different checksums", b, c)
			}
		}
	}
}

// P5.2: the XOR of three strings

func xor(a, b, c string) string {
	x := make([]byte, len(a))
	for i := range x {
		x[i] = a[i] ^ b[i] ^ c[i]
	}
	return string(x)
}

func checkXor(t *testing.T, a, b, c string) {
	t.Helper()
	checkSum(t, xor(a, b, c), crc.Sum(a)^crc.Sum(b)^crc.Sum(c))
}

func TestXorOfThreeEmptyStrings(t *testing.T) {
	checkXor(t, "", "", "")
}

func TestXorOfThreeStrings(t *testing.T) {
	checkXor(t, example, "abcdefghi", "ABCDEFGHI")
	checkXor(t, example, example, "abcdefghi")
	checkXor(t, example, example, example)
	r := rand.New(rand.NewSource(60))
	for _, n := range lengths {
		for range 20 {
			checkXor(t, randomBytes(r, n), randomBytes(r, n), randomBytes(r, n))
		}
		all := texts(n)
		checkXor(t, all[0], all[1], all[2])
	}
}

func TestXorOfThreeBytes(t *testing.T) {
	for a := range 256 {
		for b := range 256 {
			checkXor(t, string([]byte{byte(a)}), string([]byte{byte(b)}), "\x5a")
		}
	}
}
