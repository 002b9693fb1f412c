package octets_test

import (
	"encoding/binary"
	"math"
	"slices"
	"strings"
	"testing"

	"beadroll/api"
	"beadroll/octets"
)

var (
	notWidths      = []int{0, 3, 5, 6, 7, 9, 16, 256, 257, -1, -2, -4, -8, math.MaxInt, math.MinInt}
	notPieceWidths = append([]int{8}, notWidths...)
)

func checkSplit(t *testing.T, b string, widths []int, wantV []uint64, wantRest string, wantE api.Errno) {
	t.Helper()
	v, rest, e := octets.Split(b, widths)
	if !slices.Equal(v, wantV) || rest != wantRest || e != wantE {
		t.Errorf("Split(%q, %v) = %v, %q, %v; want %v, %q, %v", b, widths, v, rest, e, wantV, wantRest, wantE)
	}
}

func checkJoin(t *testing.T, v []uint64, widths []int, want string, wantE api.Errno) {
	t.Helper()
	b, e := octets.Join(v, widths)
	if b != want || e != wantE {
		t.Errorf("Join(%v, %v) = %q, %v; want %q, %v", v, widths, b, e, want, wantE)
	}
}

func checkCut(t *testing.T, b string, width int, wantS, wantRest string, wantE api.Errno) {
	t.Helper()
	s, rest, e := octets.Cut(b, width)
	if s != wantS || rest != wantRest || e != wantE {
		t.Errorf("Cut(%q, %d) = %q, %q, %v; want %q, %q, %v", b, width, s, rest, e, wantS, wantRest, wantE)
	}
}

func checkPieces(t *testing.T, b string, width int, want []string, wantE api.Errno) {
	t.Helper()
	l, e := octets.Pieces(b, width)
	if !slices.Equal(l, want) || e != wantE {
		t.Errorf("Pieces(%q, %d) = %q, %v; want %q, %v", b, width, l, e, want, wantE)
	}
}

// P1.1: Split

func TestSplitEveryWidth(t *testing.T) {
	b := "\x81\x02\x83\x04\x85\x06\x87\x08"
	checkSplit(t, b, []int{1}, []uint64{0x81}, b[1:], api.OK)
	checkSplit(t, b, []int{2}, []uint64{0x8102}, b[2:], api.OK)
	checkSplit(t, b, []int{4}, []uint64{0x81028304}, b[4:], api.OK)
	checkSplit(t, b, []int{8}, []uint64{0x8102830485068708}, "", api.OK)
	for _, w := range []int{1, 2, 4, 8} {
		checkSplit(t, strings.Repeat("\x00", w)+"rest", []int{w}, []uint64{0}, "rest", api.OK)
		checkSplit(t, strings.Repeat("\xff", w)+"rest", []int{w}, []uint64{math.MaxUint64 >> (64 - 8*w)}, "rest", api.OK)
	}
}

func TestSplitSeveralIntegersInOrder(t *testing.T) {
	checkSplit(t, "\x01\x02\x03", []int{1, 2}, []uint64{1, 515}, "", api.OK)
	checkSplit(t, "\x01\x02\x03", []int{2, 1}, []uint64{258, 3}, "", api.OK)
	checkSplit(t, "\x01\x02\x03\xff\x00", []int{1, 1, 1}, []uint64{1, 2, 3}, "\xff\x00", api.OK)
	b := "\x00\x00\x00\x00\x00\x00\x00\x01" + "\x00\x00\x00\x02" + "\x00\x03" + "\x04" + "tail"
	checkSplit(t, b, []int{8, 4, 2, 1}, []uint64{1, 2, 3, 4}, "tail", api.OK)
}

func TestSplitWithoutWidthsLeavesAll(t *testing.T) {
	for _, b := range []string{"", "\x00", "abc"} {
		checkSplit(t, b, nil, nil, b, api.OK)
		checkSplit(t, b, []int{}, nil, b, api.OK)
	}
}

func TestSplitMissingBytes(t *testing.T) {
	for _, w := range []int{1, 2, 4, 8} {
		for n := range w {
			checkSplit(t, strings.Repeat("\xff", n), []int{w}, nil, "", api.ErrForm)
		}
	}
	whole := "\x01\x02\x02\x04\x04\x04\x04\x08\x08\x08\x08\x08\x08\x08\x08"
	for n := range len(whole) {
		checkSplit(t, whole[:n], []int{1, 2, 4, 8}, nil, "", api.ErrForm)
	}
	checkSplit(t, whole, []int{1, 2, 4, 8}, []uint64{1, 0x0202, 0x04040404, 0x0808080808080808}, "", api.OK)
}

func TestSplitNotAWidth(t *testing.T) {
	long := strings.Repeat("\x01", 300)
	for _, w := range notWidths {
		for _, b := range []string{"", "\x01", long} {
			// Where bytes are missing, too, ErrArg comes first, wherever the width stands.
			for _, widths := range [][]int{{w}, {w, 1}, {1, w}, {8, w}, {8, 8, w}, {2, w, 4}, {w, w}} {
				checkSplit(t, b, widths, nil, "", api.ErrArg)
			}
		}
	}
}

// P1.1: Join

func TestJoinEveryWidth(t *testing.T) {
	checkJoin(t, []uint64{0x81}, []int{1}, "\x81", api.OK)
	checkJoin(t, []uint64{0x8102}, []int{2}, "\x81\x02", api.OK)
	checkJoin(t, []uint64{0x81028304}, []int{4}, "\x81\x02\x83\x04", api.OK)
	checkJoin(t, []uint64{0x8102830485068708}, []int{8}, "\x81\x02\x83\x04\x85\x06\x87\x08", api.OK)
	checkJoin(t, []uint64{1, 515}, []int{1, 2}, "\x01\x02\x03", api.OK)
	checkJoin(t, []uint64{515, 1}, []int{2, 1}, "\x02\x03\x01", api.OK)
	checkJoin(t, []uint64{255, 1, 1 << 40}, []int{1, 4, 8}, "\xff\x00\x00\x00\x01\x00\x00\x01\x00\x00\x00\x00\x00", api.OK)
	checkJoin(t, nil, nil, "", api.OK)
	checkJoin(t, []uint64{}, nil, "", api.OK)
	checkJoin(t, nil, []int{}, "", api.OK)
}

func TestJoinLimitOfEveryWidth(t *testing.T) {
	for _, w := range []int{1, 2, 4} {
		limit := uint64(1) << (8 * w)
		checkJoin(t, []uint64{0}, []int{w}, strings.Repeat("\x00", w), api.OK)
		checkJoin(t, []uint64{limit - 1}, []int{w}, strings.Repeat("\xff", w), api.OK)
		for _, n := range []uint64{limit, limit + 1, limit * 2, 1 << 63, math.MaxUint64} {
			checkJoin(t, []uint64{n}, []int{w}, "", api.ErrArg)
			checkJoin(t, []uint64{0, n}, []int{8, w}, "", api.ErrArg)
			checkJoin(t, []uint64{n, 0}, []int{w, 8}, "", api.ErrArg)
		}
	}
	checkJoin(t, []uint64{0}, []int{8}, strings.Repeat("\x00", 8), api.OK)
	checkJoin(t, []uint64{1 << 63}, []int{8}, "\x80"+strings.Repeat("\x00", 7), api.OK)
	checkJoin(t, []uint64{math.MaxUint64}, []int{8}, strings.Repeat("\xff", 8), api.OK)
}

func TestJoinOtherNumberOfIntegersThanWidths(t *testing.T) {
	checkJoin(t, []uint64{1}, nil, "", api.ErrArg)
	checkJoin(t, nil, []int{1}, "", api.ErrArg)
	checkJoin(t, []uint64{1, 2}, []int{1}, "", api.ErrArg)
	checkJoin(t, []uint64{1}, []int{1, 1}, "", api.ErrArg)
	checkJoin(t, []uint64{256, 1}, []int{1}, "", api.ErrArg)
}

func TestJoinNotAWidth(t *testing.T) {
	for _, w := range notWidths {
		for _, widths := range [][]int{{w}, {w, 1}, {1, w}, {8, w, 4}} {
			checkJoin(t, make([]uint64, len(widths)), widths, "", api.ErrArg)
			checkJoin(t, nil, widths, "", api.ErrArg)
		}
	}
}

// P1.2: Cut

func TestCutEveryWidth(t *testing.T) {
	checkCut(t, "\x02abc", 1, "ab", "c", api.OK)
	checkCut(t, "\x00\x02abc", 2, "ab", "c", api.OK)
	checkCut(t, "\x00\x00\x00\x02abc", 4, "ab", "c", api.OK)
	checkCut(t, "\x03abc", 1, "abc", "", api.OK)
	checkCut(t, "\x03\x00\xff\x80\x01", 1, "\x00\xff\x80", "\x01", api.OK)
	for _, w := range []int{1, 2, 4} {
		zeros := strings.Repeat("\x00", w)
		checkCut(t, zeros, w, "", "", api.OK)
		checkCut(t, zeros+"rest", w, "", "rest", api.OK)
	}
}

func TestCutLongPieces(t *testing.T) {
	s := strings.Repeat("abcdefg", 10000)
	checkCut(t, "\xff"+s[:256], 1, s[:255], s[255:256], api.OK)
	checkCut(t, "\x01\x00"+s[:257], 2, s[:256], s[256:257], api.OK)
	checkCut(t, "\xff\xff"+s[:65536], 2, s[:65535], s[65535:65536], api.OK)
	checkCut(t, "\x00\x01\x00\x01"+s[:65538], 4, s[:65537], s[65537:65538], api.OK)
}

func TestCutMissingBytes(t *testing.T) {
	for _, whole := range []string{"\x03abc", "\x00\x03abc", "\x00\x00\x00\x03abc"} {
		w := len(whole) - 3
		for n := range len(whole) {
			checkCut(t, whole[:n], w, "", "", api.ErrForm)
		}
		checkCut(t, whole, w, "abc", "", api.OK)
	}
	for _, w := range []int{1, 2, 4} {
		checkCut(t, strings.Repeat("\xff", w), w, "", "", api.ErrForm)
		checkCut(t, strings.Repeat("\xff", w)+"abc", w, "", "", api.ErrForm)
		checkCut(t, "\x80"+strings.Repeat("\x00", w-1)+"abc", w, "", "", api.ErrForm)
	}
}

func TestCutNotAWidthOfPieces(t *testing.T) {
	for _, w := range notPieceWidths {
		for _, b := range []string{"", "\x01a", strings.Repeat("\x00", 300)} {
			checkCut(t, b, w, "", "", api.ErrArg)
		}
	}
}

// P1.2: Piece

func TestPieceLimitOfEveryWidth(t *testing.T) {
	s := strings.Repeat("abcdefg", 3000000)
	for _, c := range []struct {
		width, size int
		head        string
		e           api.Errno
	}{
		{1, 0, "\x00", api.OK},
		{1, 1, "\x01", api.OK},
		{1, 254, "\xfe", api.OK},
		{1, 255, "\xff", api.OK},
		{1, 256, "", api.ErrLong},
		{1, 257, "", api.ErrLong},
		{1, 65536, "", api.ErrLong},
		{2, 0, "\x00\x00", api.OK},
		{2, 255, "\x00\xff", api.OK},
		{2, 256, "\x01\x00", api.OK},
		{2, 65534, "\xff\xfe", api.OK},
		{2, 65535, "\xff\xff", api.OK},
		{2, 65536, "", api.ErrLong},
		{2, 65537, "", api.ErrLong},
		{2, 1 << 24, "", api.ErrLong},
		{4, 0, "\x00\x00\x00\x00", api.OK},
		{4, 255, "\x00\x00\x00\xff", api.OK},
		{4, 65535, "\x00\x00\xff\xff", api.OK},
		{4, 65536, "\x00\x01\x00\x00", api.OK},
		{4, 1<<24 + 1, "\x01\x00\x00\x01", api.OK},
	} {
		want := ""
		if c.e == api.OK {
			want = c.head + s[:c.size]
		}
		b, e := octets.Piece(s[:c.size], c.width)
		if b != want || e != c.e {
			t.Errorf("Piece of %d bytes, %d: %d bytes, %v; want %d bytes, %v", c.size, c.width, len(b), e, len(want), c.e)
		}
	}
}

func TestPieceNotAWidthOfPieces(t *testing.T) {
	for _, w := range notPieceWidths {
		// A string that is too long for any wrong reading of the width does not hide ErrArg.
		for _, s := range []string{"", "a", strings.Repeat("a", 70000)} {
			if b, e := octets.Piece(s, w); b != "" || e != api.ErrArg {
				t.Errorf("Piece of %d bytes, %d: %d bytes, %v; want none, ErrArg", len(s), w, len(b), e)
			}
		}
	}
}

// P1.2: Pieces

func TestPiecesEveryWidth(t *testing.T) {
	checkPieces(t, "\x01a\x00\x02bc", 1, []string{"a", "", "bc"}, api.OK)
	checkPieces(t, "\x00\x01a\x00\x00\x00\x02bc", 2, []string{"a", "", "bc"}, api.OK)
	checkPieces(t, "\x00\x00\x00\x01a\x00\x00\x00\x00\x00\x00\x00\x02bc", 4, []string{"a", "", "bc"}, api.OK)
	for _, w := range []int{1, 2, 4} {
		checkPieces(t, "", w, nil, api.OK)
		checkPieces(t, strings.Repeat("\x00", w), w, []string{""}, api.OK)
		checkPieces(t, strings.Repeat("\x00", 3*w), w, []string{"", "", ""}, api.OK)
	}
}

func TestPiecesMissingBytes(t *testing.T) {
	parts := []string{"a", "", "bc", "\x00\xff"}
	for _, w := range []int{1, 2, 4} {
		whole := ""
		ends := map[int]int{0: 0} // an end of a piece, and the number of pieces up to it
		for i, s := range parts {
			b, _ := octets.Piece(s, w)
			whole += b
			ends[len(whole)] = i + 1
		}
		for n := range len(whole) + 1 {
			if k, ok := ends[n]; ok {
				checkPieces(t, whole[:n], w, parts[:k], api.OK)
			} else {
				checkPieces(t, whole[:n], w, nil, api.ErrForm)
			}
		}
		checkPieces(t, strings.Repeat("\xff", w), w, nil, api.ErrForm)
		checkPieces(t, whole+strings.Repeat("\xff", w), w, nil, api.ErrForm)
	}
}

func TestPiecesNotAWidthOfPieces(t *testing.T) {
	for _, w := range notPieceWidths {
		for _, b := range []string{"", "\x01a", "\x02a", strings.Repeat("\x00", 300)} {
			checkPieces(t, b, w, nil, api.ErrArg)
		}
	}
}

func TestPiecesMany(t *testing.T) {
	const n = 200000
	l, e := octets.Pieces(strings.Repeat("\x00\x03abc", n), 2)
	if len(l) != n || e != api.OK {
		t.Fatal(len(l), e)
	}
	for _, s := range l {
		if s != "abc" {
			t.Fatalf("%q", s)
		}
	}
}

// P1.3, and the rules

// eachWidths calls f with all lists of at most n widths.
func eachWidths(n int, f func([]int)) {
	var grow func([]int)
	grow = func(l []int) {
		f(l)
		if len(l) < n {
			for _, w := range []int{1, 2, 4, 8} {
				grow(append(slices.Clone(l), w))
			}
		}
	}
	grow(nil)
}

func sum(widths []int) int {
	n := 0
	for _, w := range widths {
		n += w
	}
	return n
}

// manyBytes returns n bytes without a short period, the same ones at each call.
func manyBytes(n int) string {
	b := make([]byte, n)
	x := uint32(12345)
	for i := range b {
		x = x*1664525 + 1013904223
		b[i] = byte(x >> 24)
	}
	return string(b)
}

// integers decodes b independently of the package.
func integers(b string, widths []int) []uint64 {
	var v []uint64
	for _, w := range widths {
		var x [8]byte
		copy(x[8-w:], b[:w])
		v = append(v, binary.BigEndian.Uint64(x[:]))
		b = b[w:]
	}
	return v
}

func TestWhatIsSplitIsJoinedAgain(t *testing.T) {
	text := manyBytes(64)
	eachWidths(4, func(widths []int) {
		for _, n := range []int{0, 1, 5, 8, 16, 31, 32, 40} {
			b := text[n%7:][:n]
			if n < sum(widths) {
				checkSplit(t, b, widths, nil, "", api.ErrForm)
				continue
			}
			checkSplit(t, b, widths, integers(b, widths), b[sum(widths):], api.OK)
			v, rest, _ := octets.Split(b, widths)
			checkJoin(t, v, widths, b[:len(b)-len(rest)], api.OK)
		}
	})
}

func TestWhatIsJoinedIsSplitAgain(t *testing.T) {
	eachWidths(4, func(widths []int) {
		for _, x := range []uint64{0, 1, 127, 128, 255, 0x8001, 0x01020304, 0xfffefdfc, 0x8102030405060708, math.MaxUint64} {
			v := make([]uint64, len(widths))
			for i, w := range widths {
				v[i] = (x + uint64(i)) & (math.MaxUint64 >> (64 - 8*w))
			}
			b, e := octets.Join(v, widths)
			if len(b) != sum(widths) || e != api.OK {
				t.Fatalf("Join(%v, %v) = %q, %v", v, widths, b, e)
			}
			checkSplit(t, b, widths, v, "", api.OK)
			checkSplit(t, b+"tail", widths, v, "tail", api.OK)
		}
	})
}

func TestWhatIsAPieceIsCutAgain(t *testing.T) {
	text := manyBytes(70000)
	for _, w := range []int{1, 2, 4} {
		all := ""
		var parts []string
		for _, n := range []int{0, 1, 2, 127, 128, 254, 255, 256, 257, 65535, 65536, 69999} {
			b, e := octets.Piece(text[:n], w)
			if e != api.OK {
				continue
			}
			checkCut(t, b, w, text[:n], "", api.OK)
			checkCut(t, b+"\xff", w, text[:n], "\xff", api.OK)
			all += b
			parts = append(parts, text[:n])
		}
		checkPieces(t, all, w, parts, api.OK)
	}
}

func TestEveryShortString(t *testing.T) {
	var grow func(string)
	grow = func(b string) {
		eachWidths(2, func(widths []int) {
			if len(b) < sum(widths) {
				checkSplit(t, b, widths, nil, "", api.ErrForm)
			} else {
				checkSplit(t, b, widths, integers(b, widths), b[sum(widths):], api.OK)
			}
		})
		for _, w := range []int{1, 2, 4} {
			checkAgainstModel(t, b, w)
		}
		if len(b) < 6 {
			for _, c := range []string{"\x00", "\x01", "\x02", "\xff"} {
				grow(b + c)
			}
		}
	}
	grow("")
}

// modelCut finds the first piece by offsets; ok is false where bytes are missing.
func modelCut(b string, w int) (s, rest string, ok bool) {
	if len(b) < w {
		return "", "", false
	}
	n := integers(b, []int{w})[0]
	if n > uint64(len(b)-w) {
		return "", "", false
	}
	end := w + int(n)
	return b[w:end], b[end:], true
}

func checkAgainstModel(t *testing.T, b string, w int) {
	t.Helper()
	s, rest, ok := modelCut(b, w)
	if ok {
		checkCut(t, b, w, s, rest, api.OK)
	} else {
		checkCut(t, b, w, "", "", api.ErrForm)
	}
	var parts []string
	for left := b; left != ""; {
		s, left, ok = modelCut(left, w)
		if !ok {
			checkPieces(t, b, w, nil, api.ErrForm)
			return
		}
		parts = append(parts, s)
	}
	checkPieces(t, b, w, parts, api.OK)
}

func TestArgumentsAreNotModified(t *testing.T) {
	widths := []int{1, 2, 4, 8, 77, 78}
	values := []uint64{1, 2, 3, 4, 88, 89}
	for n := range 5 {
		octets.Split(manyBytes(20), widths[:n])
		octets.Split("", widths[:n])
		octets.Join(values[:n], widths[:n])
		octets.Join(values[:n], widths[:4-n])
	}
	if !slices.Equal(widths, []int{1, 2, 4, 8, 77, 78}) || !slices.Equal(values, []uint64{1, 2, 3, 4, 88, 89}) {
		t.Error(widths, values)
	}
}

func TestResultsAreNewMemory(t *testing.T) {
	v, _, _ := octets.Split("\x01\x02", []int{1, 1})
	v[0] = 99
	checkSplit(t, "\x01\x02", []int{1, 1}, []uint64{1, 2}, "", api.OK)
	l, _ := octets.Pieces("\x01a\x01b", 1)
	l[0] = "changed"
	checkPieces(t, "\x01a\x01b", 1, []string{"a", "b"}, api.OK)
}
