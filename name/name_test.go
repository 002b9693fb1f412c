package name_test

import (
	"bytes"
	"fmt"
	"math/rand"
	"slices"
	"strings"
	"testing"

	"beadroll/api"
	"beadroll/name"
)

const (
	maxName  = 255
	maxLabel = 63
	upper    = "ABCDEFGHIJKLMNOPQRSTUVWXYZ"
	lower    = "abcdefghijklmnopqrstuvwxyz"
)

// longest is a name of MaxName bytes; tooLong has one byte more, and is otherwise a name.
var (
	longest = wire(strings.Repeat("a", 63), strings.Repeat("B", 63), strings.Repeat("c", 63), strings.Repeat("d", 61))
	tooLong = wire(strings.Repeat("a", 63), strings.Repeat("B", 63), strings.Repeat("c", 63), strings.Repeat("d", 62))
)

// wrong are strings that are not names.
var wrong = []string{
	"",
	"\x00\x00",
	"\x00a",
	"\x00\x01a\x00",
	"\x01",
	"\x01a",
	"\x01a\x00\x00",
	"\x01a\x00x",
	"\x01a\x00\x01b\x00",
	"\x02a\x00",
	"\x03ab\x00",
	"\x01a\x02b\x00",
	"\x01a\x02bc",
	"\x03abc\x3f\x00",
	"a",
	"a.",
	"www.example.",
	"\xff",
	"\xc0\x0c",
	"\xc0\x0c\x00",
	"\x01a\xc0\x00",
	"\x40" + strings.Repeat("a", 64) + "\x00",
	"\x01a\x40" + strings.Repeat("a", 64) + "\x00",
	"\x40" + strings.Repeat("a", 64) + "\x01a\x00",
	"A" + strings.Repeat("a", 65) + "\x00",
	"Z" + strings.Repeat("a", 90) + "\x00",
	"[" + strings.Repeat("a", 91) + "\x00",
	"`" + strings.Repeat("a", 96) + "\x00",
	"a" + strings.Repeat("a", 97) + "\x00",
	"z" + strings.Repeat("a", 122) + "\x00",
	"{" + strings.Repeat("a", 123) + "\x00",
	"\x80" + strings.Repeat("a", 128) + "\x00",
	"\xc0" + strings.Repeat("a", 192) + "\x00",
	"\xfd" + strings.Repeat("a", 253) + "\x00",
	"\xff" + strings.Repeat("a", 255) + "\x00",
	strings.Repeat("\x01a", 127),
	strings.Repeat("\x01a", 128) + "\x00",
	strings.Repeat("\x03abc", 64) + "\x00",
	strings.Repeat("\x01a", 100000) + "\x00",
	strings.Repeat("\x00", maxName),
	wire(strings.Repeat("a", 63), strings.Repeat("B", 63), strings.Repeat("c", 63), strings.Repeat("d", 62)),
}

// names are names in their order, in groups that are alike.
var names = [][]string{
	{"\x00"},
	{"\x01\x00\x00"},
	{"\x01\x01\x00"},
	{"\x01*\x00"},
	{"\x01a\x01*\x00", "\x01A\x01*\x00"},
	{"\x02*a\x00", "\x02*A\x00"},
	{"\x01@\x00"},
	{"\x01[\x00"},
	{"\x01`\x00"},
	{"\x01a\x00", "\x01A\x00"},
	{"\x01\x00\x01a\x00", "\x01\x00\x01A\x00"},
	{"\x01*\x01a\x00", "\x01*\x01A\x00"},
	{"\x01a\x01a\x00", "\x01A\x01a\x00", "\x01a\x01A\x00", "\x01A\x01A\x00"},
	{"\x01a\x01a\x01a\x00", "\x01A\x01A\x01A\x00"},
	{"\x01b\x01a\x00", "\x01B\x01a\x00"},
	{"\x01\xff\x01a\x00", "\x01\xff\x01A\x00"},
	{"\x02a\x00\x00", "\x02A\x00\x00"},
	{"\x03a\x01b\x00", "\x03A\x01b\x00", "\x03A\x01B\x00"},
	{"\x02a*\x00", "\x02A*\x00"},
	{"\x02aa\x00", "\x02aA\x00", "\x02Aa\x00", "\x02AA\x00"},
	{"\x01b\x00", "\x01B\x00"},
	{"\x01a\x01b\x00", "\x01A\x01B\x00"},
	{"\x02aa\x01b\x00"},
	{"\x01z\x00", "\x01Z\x00"},
	{"\x02zz\x00", "\x02zZ\x00"},
	{"\x01{\x00"},
	{"\x01\x7f\x00"},
	{"\x01\x80\x00"},
	{"\x01\xc1\x00"},
	{"\x01\xe1\x00"},
	{"\x01\xff\x00"},
	{"\x01a\x01\xff\x00", "\x01A\x01\xff\x00"},
	{"\x02\xff\x00\x00"},
	{"\x02\xff\xff\x00"},
}

func wire(labels ...string) string {
	n := ""
	for _, l := range labels {
		n += string(byte(len(l))) + l
	}
	return n + "\x00"
}

func allNames() []string {
	return append(slices.Concat(names...), longest, wire(strings.Repeat("x", maxLabel)), wire(strings.Split(strings.Repeat("y", 127), "")...))
}

// modelLabels reads by offsets what the chapter calls a name.
func modelLabels(n string) ([]string, bool) {
	var l []string
	for i := 0; i < len(n); {
		size := int(n[i])
		switch {
		case size == 0:
			return l, i == len(n)-1 && len(n) <= maxName
		case size > maxLabel || i+1+size > len(n):
			return nil, false
		}
		l = append(l, n[i+1:i+1+size])
		i += 1 + size
	}
	return nil, false
}

func isName(n string) bool {
	_, ok := modelLabels(n)
	return ok
}

func modelFold(n string) string {
	labels, _ := modelLabels(n)
	for i, l := range labels {
		b := []byte(l)
		for k, c := range b {
			if at := strings.IndexByte(upper, c); at >= 0 {
				b[k] = lower[at]
			}
		}
		labels[i] = string(b)
	}
	return wire(labels...)
}

func modelParent(n string) string {
	labels, _ := modelLabels(n)
	return wire(labels[1:]...)
}

// modelUnder follows the chapter's recursion.
func modelUnder(n, zone string) bool {
	return modelFold(n) == modelFold(zone) || n != "\x00" && modelUnder(modelParent(n), zone)
}

func modelCompare(a, b string) int {
	la, _ := modelLabels(modelFold(a))
	lb, _ := modelLabels(modelFold(b))
	for k := 1; k <= len(la) && k <= len(lb); k++ {
		if c := bytes.Compare([]byte(la[len(la)-k]), []byte(lb[len(lb)-k])); c != 0 {
			return c
		}
	}
	switch {
	case len(la) < len(lb):
		return -1
	case len(la) > len(lb):
		return 1
	}
	return 0
}

// brief is s for a message, without most of a long text.
func brief(s string) string {
	if len(s) > 40 {
		return fmt.Sprintf("%q.. (%d bytes)", s[:40], len(s))
	}
	return fmt.Sprintf("%q", s)
}

func checkLabels(t *testing.T, n string, want []string, wantE api.Errno) {
	t.Helper()
	if l, e := name.Labels(n); !slices.Equal(l, want) || e != wantE {
		t.Errorf("Labels(%s) = %q, %v; want %q, %v", brief(n), l, e, want, wantE)
	}
	if got := name.Right(n); got != (wantE == api.OK) {
		t.Errorf("Right(%s) = %v", brief(n), got)
	}
}

func checkOf(t *testing.T, labels []string, want string, wantE api.Errno) {
	t.Helper()
	if n, e := name.Of(labels); n != want || e != wantE {
		t.Errorf("Of(%s) = %s, %v; want %s, %v", brief(fmt.Sprintf("%q", labels)), brief(n), e, brief(want), wantE)
	}
}

func checkFold(t *testing.T, n, want string) {
	t.Helper()
	if got := name.Fold(n); got != want {
		t.Errorf("Fold(%s) = %s; want %s", brief(n), brief(got), brief(want))
	}
}

func checkAlike(t *testing.T, a, b string, want bool) {
	t.Helper()
	if name.Alike(a, b) != want || name.Alike(b, a) != want {
		t.Errorf("Alike(%s, %s) = %v; want %v", brief(a), brief(b), !want, want)
	}
}

func checkParent(t *testing.T, n, want string, wantOk bool) {
	t.Helper()
	if got, ok := name.Parent(n); got != want || ok != wantOk {
		t.Errorf("Parent(%s) = %s, %v; want %s, %v", brief(n), brief(got), ok, brief(want), wantOk)
	}
}

func checkUnder(t *testing.T, n, zone string, want bool) {
	t.Helper()
	if got := name.Under(n, zone); got != want {
		t.Errorf("Under(%s, %s) = %v; want %v", brief(n), brief(zone), got, want)
	}
}

func checkWild(t *testing.T, n string, want bool) {
	t.Helper()
	if got := name.Wild(n); got != want {
		t.Errorf("Wild(%s) = %v; want %v", brief(n), got, want)
	}
}

func checkCompare(t *testing.T, a, b string, want int) {
	t.Helper()
	if got, back := name.Compare(a, b), name.Compare(b, a); got != want || back != -want {
		t.Errorf("Compare(%s, %s) = %d, and %d for %s, %s; want %d, %d", brief(a), brief(b), got, back, brief(b), brief(a), want, -want)
	}
}

func checkStar(t *testing.T, n, want string, wantE api.Errno) {
	t.Helper()
	if got, e := name.Star(n); got != want || e != wantE {
		t.Errorf("Star(%s) = %s, %v; want %s, %v", brief(n), brief(got), e, brief(want), wantE)
	}
}

// checkAll compares the functions of one name with the model.
func checkAll(t *testing.T, n string) {
	t.Helper()
	labels, ok := modelLabels(n)
	if !ok {
		checkWrong(t, n)
		return
	}
	checkLabels(t, n, labels, api.OK)
	checkOf(t, labels, n, api.OK)
	checkFold(t, n, modelFold(n))
	checkWild(t, n, len(labels) > 0 && labels[0] == "*")
	if n == "\x00" {
		checkParent(t, n, "", false)
	} else {
		checkParent(t, n, modelParent(n), true)
	}
	if len(n) > maxName-2 {
		checkStar(t, n, "", api.ErrLong)
	} else {
		checkStar(t, n, "\x01*"+n, api.OK)
	}
}

// checkWrong checks what the functions answer for a string that is not a name.
func checkWrong(t *testing.T, n string) {
	t.Helper()
	checkLabels(t, n, nil, api.ErrForm)
	checkFold(t, n, "")
	checkParent(t, n, "", false)
	checkWild(t, n, false)
	checkStar(t, n, "", api.ErrForm)
	for _, other := range []string{n, "", "\x00", "\x01a\x00", "\x01"} {
		checkAlike(t, n, other, false)
		checkUnder(t, n, other, false)
		checkUnder(t, other, n, false)
		checkCompare(t, n, other, 0)
	}
}

func checkPair(t *testing.T, a, b string) {
	t.Helper()
	checkAlike(t, a, b, modelFold(a) == modelFold(b))
	checkUnder(t, a, b, modelUnder(a, b))
	checkUnder(t, b, a, modelUnder(b, a))
	checkCompare(t, a, b, modelCompare(a, b))
}

// P7.1

func TestLabelsOfNames(t *testing.T) {
	checkLabels(t, "\x03www\x00", []string{"www"}, api.OK)
	checkLabels(t, "\x03wWw\x02Ex\x00", []string{"wWw", "Ex"}, api.OK)
	checkLabels(t, "\x01a\x02bc\x03def\x04ghij\x00", []string{"a", "bc", "def", "ghij"}, api.OK)
	checkLabels(t, "\x01.\x03a.b\x00", []string{".", "a.b"}, api.OK)
}

func TestLabelsOfTheRoot(t *testing.T) {
	checkLabels(t, "\x00", nil, api.OK)
}

func TestLabelsOfEveryByte(t *testing.T) {
	for c := range 256 {
		l := string([]byte{byte(c)})
		checkLabels(t, "\x01"+l+"\x00", []string{l}, api.OK)
		checkLabels(t, "\x03"+l+l+l+"\x01"+l+"\x00", []string{l + l + l, l}, api.OK)
	}
}

func TestLabelsThatLookLikeNames(t *testing.T) {
	checkLabels(t, "\x03\x00\x00\x00\x00", []string{"\x00\x00\x00"}, api.OK)
	checkLabels(t, "\x03\x01a\x00\x00", []string{"\x01a\x00"}, api.OK)
	checkLabels(t, "\x02\xc0\x0c\x00", []string{"\xc0\x0c"}, api.OK)
	checkLabels(t, "\x03\x01a\x00", nil, api.ErrForm)
}

func TestLabelsOfStringsThatAreNoNames(t *testing.T) {
	for _, n := range wrong {
		checkLabels(t, n, nil, api.ErrForm)
	}
}

func TestLabelsOfTheParts(t *testing.T) {
	for _, n := range allNames() {
		for i := range len(n) {
			if !isName(n[:i]) {
				checkLabels(t, n[:i], nil, api.ErrForm)
			}
		}
		checkLabels(t, n+"\x00", nil, api.ErrForm)
		checkLabels(t, n+n, nil, api.ErrForm)
	}
}

// Each byte is tried as a length, with exactly the bytes that it asks for and with one less and one more.
func TestLabelsOfEveryLength(t *testing.T) {
	for size := 1; size < 256; size++ {
		l := strings.Repeat("x", size)
		n := string([]byte{byte(size)}) + l
		if size > maxLabel {
			checkLabels(t, n+"\x00", nil, api.ErrForm)
			checkLabels(t, "\x01a"+n+"\x00", nil, api.ErrForm)
		} else {
			checkLabels(t, n+"\x00", []string{l}, api.OK)
			checkLabels(t, "\x01a"+n+"\x00", []string{"a", l}, api.OK)
		}
		checkLabels(t, n, nil, api.ErrForm)
		checkLabels(t, n[:len(n)-1]+"\x00", nil, api.ErrForm)
		checkLabels(t, n+"x\x00", nil, api.ErrForm)
	}
}

func TestLabelsOfMaxNameBytes(t *testing.T) {
	long := strings.Repeat("a", 63)
	checkLabels(t, longest, []string{long, strings.Repeat("B", 63), strings.Repeat("c", 63), strings.Repeat("d", 61)}, api.OK)
	checkLabels(t, tooLong, nil, api.ErrForm)
	single := slices.Repeat([]string{"a"}, 127)
	checkLabels(t, wire(single...), single, api.OK)
	checkLabels(t, wire(append(single, "b")...), nil, api.ErrForm)
	checkLabels(t, wire(append(single[:126:126], "bc")...), nil, api.ErrForm)
	checkLabels(t, wire(append(single[:125:125], "bc")...), append(single[:125:125], "bc"), api.OK)
	if len(longest) != 255 || len(tooLong) != 256 {
		t.Errorf("%d and %d bytes", len(longest), len(tooLong))
	}
}

func TestOfLabels(t *testing.T) {
	checkOf(t, nil, "\x00", api.OK)
	checkOf(t, []string{}, "\x00", api.OK)
	checkOf(t, []string{"www"}, "\x03www\x00", api.OK)
	checkOf(t, []string{"wWw", "Ex"}, "\x03wWw\x02Ex\x00", api.OK)
	checkOf(t, []string{"\x00", ".", "*", "\xff\xfe"}, "\x01\x00\x01.\x01*\x02\xff\xfe\x00", api.OK)
}

func TestOfAnEmptyLabel(t *testing.T) {
	checkOf(t, []string{""}, "", api.ErrForm)
	checkOf(t, []string{"", ""}, "", api.ErrForm)
	checkOf(t, []string{"", "a"}, "", api.ErrForm)
	checkOf(t, []string{"a", ""}, "", api.ErrForm)
	checkOf(t, []string{"a", "", "b"}, "", api.ErrForm)
}

func TestOfLongLabels(t *testing.T) {
	for _, size := range []int{1, 62, 63} {
		l := strings.Repeat("a", size)
		checkOf(t, []string{l}, string(byte(size))+l+"\x00", api.OK)
		checkOf(t, []string{"b", l}, "\x01b"+string(byte(size))+l+"\x00", api.OK)
	}
	for _, size := range []int{64, 65, 127, 128, 255, 256, 257, 256 + 63, 65536, 65537} {
		l := strings.Repeat("a", size)
		checkOf(t, []string{l}, "", api.ErrLong)
		checkOf(t, []string{"b", l}, "", api.ErrLong)
		checkOf(t, []string{l, "b"}, "", api.ErrLong)
	}
}

func TestOfLongNames(t *testing.T) {
	long := strings.Repeat("a", 63)
	for last := 1; last <= 63; last++ {
		l := []string{long, long, long, strings.Repeat("b", last)}
		if last <= 61 {
			checkOf(t, l, wire(l...), api.OK)
		} else {
			checkOf(t, l, "", api.ErrLong)
		}
	}
	for n := 1; n <= 127; n++ {
		l := slices.Repeat([]string{"a"}, n)
		checkOf(t, l, wire(l...), api.OK)
	}
	for _, n := range []int{128, 129, 255, 256, 257, 100000} {
		checkOf(t, slices.Repeat([]string{"a"}, n), "", api.ErrLong)
	}
	checkOf(t, append(slices.Repeat([]string{"a"}, 126), "bc"), "", api.ErrLong)
	checkOf(t, slices.Repeat([]string{long}, 4), "", api.ErrLong)
	checkOf(t, slices.Repeat([]string{long}, 5), "", api.ErrLong)
	checkOf(t, slices.Repeat([]string{long}, 100000), "", api.ErrLong)
}

func TestOfReturnsErrFormBeforeErrLong(t *testing.T) {
	long := strings.Repeat("a", 64)
	checkOf(t, []string{long, ""}, "", api.ErrForm)
	checkOf(t, []string{"", long}, "", api.ErrForm)
	checkOf(t, []string{long, long, long, long, long, ""}, "", api.ErrForm)
	checkOf(t, append(slices.Repeat([]string{"a"}, 128), ""), "", api.ErrForm)
	checkOf(t, append([]string{""}, slices.Repeat([]string{"a"}, 128)...), "", api.ErrForm)
	checkOf(t, append(slices.Repeat([]string{"a"}, 127), ""), "", api.ErrForm)
}

// P7.2

func TestFoldOfLetters(t *testing.T) {
	checkFold(t, "\x00", "\x00")
	checkFold(t, "\x03wWw\x02Ex\x00", "\x03www\x02ex\x00")
	checkFold(t, wire(upper, lower, upper), wire(lower, lower, lower))
	checkFold(t, longest, strings.ToLower(longest))
}

func TestFoldOfOtherBytes(t *testing.T) {
	checkFold(t, "\x08@AZ[`az{\x00", "\x08@az[`az{\x00")
	checkFold(t, "\x06\xc3\x84\xc4\xb0\xe2\x84\x00", "\x06\xc3\x84\xc4\xb0\xe2\x84\x00")
	for c := range 256 {
		want := byte(c)
		if at := strings.IndexByte(upper, want); at >= 0 {
			want = lower[at]
		}
		checkFold(t, "\x01"+string([]byte{byte(c)})+"\x00", "\x01"+string([]byte{want})+"\x00")
	}
}

// No length of a label is a letter, but it can be a byte that lies as far from another one as A from a.
func TestFoldKeepsLengths(t *testing.T) {
	for size := 1; size <= maxLabel; size++ {
		checkFold(t, wire(strings.Repeat("X", size), "Y"), wire(strings.Repeat("x", size), "y"))
	}
	for _, c := range "@AZ[`az{" {
		n := string(c) + strings.Repeat("a", int(c)) + "\x00"
		checkWrong(t, n)
		checkWrong(t, "\x01a"+n)
	}
}

func TestAlike(t *testing.T) {
	for i, group := range names {
		for k, other := range names {
			for _, a := range group {
				for _, b := range other {
					checkAlike(t, a, b, i == k)
				}
			}
		}
	}
	checkAlike(t, "\x03wWw\x02Ex\x00", "\x03WwW\x02eX\x00", true)
	checkAlike(t, longest, strings.ToUpper(longest), true)
}

func TestAlikeOfBytesNextToLetters(t *testing.T) {
	for c := range 256 {
		for d := range 256 {
			a, b := string([]byte{1, byte(c), 0}), string([]byte{1, byte(d), 0})
			if c > d {
				continue
			}
			letter := strings.IndexByte(upper, byte(c))
			checkAlike(t, a, b, c == d || letter >= 0 && lower[letter] == byte(d))
		}
	}
}

func TestParent(t *testing.T) {
	checkParent(t, "\x00", "", false)
	checkParent(t, "\x03www\x00", "\x00", true)
	checkParent(t, "\x03wWw\x02Ex\x00", "\x02Ex\x00", true)
	checkParent(t, "\x03\x01a\x00\x01b\x00", "\x01b\x00", true)
	checkParent(t, longest, longest[64:], true)
}

func TestUnder(t *testing.T) {
	checkUnder(t, "\x00", "\x00", true)
	checkUnder(t, "\x02ex\x00", "\x02ex\x00", true)
	checkUnder(t, "\x02Ex\x00", "\x02eX\x00", true)
	checkUnder(t, "\x02ex\x00", "\x00", true)
	checkUnder(t, "\x00", "\x02ex\x00", false)
	checkUnder(t, "\x03www\x02ex\x00", "\x02ex\x00", true)
	checkUnder(t, "\x03wWw\x02Ex\x00", "\x02eX\x00", true)
	checkUnder(t, "\x02ex\x00", "\x03www\x02ex\x00", false)
	checkUnder(t, "\x01a\x01b\x01c\x02ex\x00", "\x01C\x02EX\x00", true)
	checkUnder(t, "\x01a\x01b\x01c\x02ex\x00", "\x00", true)
	checkUnder(t, "\x01a\x01b\x01c\x02ex\x00", "\x01a\x00", false)
	checkUnder(t, "\x01a\x01b\x01c\x02ex\x00", "\x01a\x01b\x00", false)
	checkUnder(t, "\x01a\x02ex\x00", "\x01b\x02ex\x00", false)
	checkUnder(t, longest, longest[192:], true)
	checkUnder(t, longest, longest, true)
}

func TestUnderOfANameThatOnlyEndsInTheSameBytes(t *testing.T) {
	checkUnder(t, "\x03wex\x00", "\x02ex\x00", false)
	checkUnder(t, "\x04w\x02ex\x00", "\x02ex\x00", false)
	checkUnder(t, "\x03\x02ex\x00", "\x02ex\x00", false)
	checkUnder(t, "\x01w\x03\x02ex\x00", "\x02ex\x00", false)
	checkUnder(t, "\x04a\x01a\x01\x01a\x00", "\x01a\x01\x01a\x00", false)
	checkUnder(t, "\x02ex\x02ey\x00", "\x02ex\x00", false)
}

func TestWild(t *testing.T) {
	for _, n := range []string{"\x01*\x00", "\x01*\x02ex\x00", "\x01*\x01*\x00", "\x01*\x01a\x01*\x00"} {
		checkWild(t, n, true)
	}
	for _, n := range []string{"\x00", "\x01a\x00", "\x01a\x01*\x00", "\x02*a\x00", "\x02a*\x00", "\x02**\x00", "\x03\x01*a\x00", "\x02\x01*\x00", "\x01+\x00", "\x01)\x00", "\x01j\x00", "\x01\n\x00", "\x01*", "\x01*\x00\x00", "\x01*\x01"} {
		checkWild(t, n, false)
	}
	checkWild(t, "\x01*"+longest[64:], true)
	checkWild(t, "\x01*"+longest, false)
}

func TestCompareInOrder(t *testing.T) {
	for i, group := range names {
		for k, other := range names {
			want := 0
			if i < k {
				want = -1
			} else if i > k {
				want = 1
			}
			for _, a := range group {
				for _, b := range other {
					checkCompare(t, a, b, want)
				}
			}
		}
	}
}

// The example of RFC 4034, 6.1.
func TestCompareTheExampleOfTheRFC(t *testing.T) {
	l := []string{
		wire("example"),
		wire("a", "example"),
		wire("yljkjljk", "a", "example"),
		wire("Z", "a", "example"),
		wire("zABC", "a", "EXAMPLE"),
		wire("z", "example"),
		wire("\x01", "z", "example"),
		wire("*", "z", "example"),
		wire("\xc8", "z", "example"),
	}
	for i, a := range l {
		checkCompare(t, a, a, 0)
		for _, b := range l[i+1:] {
			checkCompare(t, a, b, -1)
		}
	}
}

func TestCompareLabels(t *testing.T) {
	checkCompare(t, wire("ab"), wire("abc"), -1)
	checkCompare(t, wire("AB"), wire("abc"), -1)
	checkCompare(t, wire("abc"), wire("abd"), -1)
	checkCompare(t, wire("b"), wire("abc"), 1)
	checkCompare(t, wire("a"), wire("a\x00"), -1)
	checkCompare(t, wire("a", "ex"), wire("aa", "ex"), -1)
	checkCompare(t, wire("B", "ex"), wire("a", "ex"), 1)
	checkCompare(t, wire("_"), wire("A"), -1)
	checkCompare(t, wire("_"), wire("a"), -1)
	checkCompare(t, wire("["), wire("A"), -1)
	checkCompare(t, wire("{"), wire("Z"), 1)
	checkCompare(t, wire(strings.Repeat("a", 62)), wire(strings.Repeat("a", 63)), -1)
}

func TestCompareNumbersOfLabels(t *testing.T) {
	checkCompare(t, "\x00", wire("\x00"), -1)
	checkCompare(t, "\x00", longest, -1)
	checkCompare(t, wire("ex"), wire("\x00", "ex"), -1)
	checkCompare(t, wire("z", "ex"), wire("a", "z", "EX"), -1)
	checkCompare(t, wire("z"), wire("a", "b", "c", "y"), 1)
	checkCompare(t, wire("a", "b"), wire("ab"), 1)
	checkCompare(t, wire("b", "a"), wire("aa"), -1)
}

func TestCompareBytes(t *testing.T) {
	for c := range 256 {
		for d := range 256 {
			a, b := wire(string([]byte{byte(c)}), "x"), wire(string([]byte{byte(d)}), "x")
			checkCompare(t, a, b, modelCompare(a, b))
		}
	}
	checkCompare(t, wire("\x7f"), wire("\x80"), -1)
	checkCompare(t, wire("z"), wire("\x80"), -1)
	checkCompare(t, wire("\xc3\xa4"), wire("\xc3\x84"), 1)
	checkCompare(t, wire("\xff"), wire("\xfe\xff"), 1)
}

func TestCompareFromTheEnd(t *testing.T) {
	checkCompare(t, wire("z", "a"), wire("a", "z"), -1)
	checkCompare(t, wire("z", "m", "a"), wire("a", "m", "z"), -1)
	checkCompare(t, wire("b", "y", "ex"), wire("c", "x", "ex"), 1)
	checkCompare(t, wire("z", "ex"), wire("a", "a", "ez"), -1)
	checkCompare(t, wire("a", "a", "b"), wire("b", "a"), 1)
}

func TestStar(t *testing.T) {
	checkStar(t, "\x00", "\x01*\x00", api.OK)
	checkStar(t, "\x02Ex\x00", "\x01*\x02Ex\x00", api.OK)
	checkStar(t, "\x01*\x00", "\x01*\x01*\x00", api.OK)
}

func TestStarOfLongNames(t *testing.T) {
	long := strings.Repeat("a", 63)
	for last := 1; last <= 61; last++ {
		n := wire(long, long, long, strings.Repeat("b", last))
		if last <= 59 {
			checkStar(t, n, "\x01*"+n, api.OK)
		} else {
			checkStar(t, n, "", api.ErrLong)
		}
	}
	checkStar(t, wire(slices.Repeat([]string{"a"}, 126)...), wire(append([]string{"*"}, slices.Repeat([]string{"a"}, 126)...)...), api.OK)
	checkStar(t, wire(slices.Repeat([]string{"a"}, 127)...), "", api.ErrLong)
	checkStar(t, longest, "", api.ErrLong)
	checkStar(t, tooLong, "", api.ErrForm)
}

func TestArgumentsThatAreNoNames(t *testing.T) {
	for _, n := range wrong {
		checkWrong(t, n)
		for _, other := range []string{"\x02ex\x00", longest, wrong[2]} {
			checkAlike(t, n, other, false)
			checkUnder(t, n, other, false)
			checkUnder(t, other, n, false)
			checkCompare(t, n, other, 0)
		}
	}
}

// P7.3

func TestOfTheLabelsOfANameIsTheName(t *testing.T) {
	for _, n := range allNames() {
		labels, e := name.Labels(n)
		if e != api.OK {
			t.Errorf("Labels(%s): %v", brief(n), e)
		}
		checkOf(t, labels, n, api.OK)
	}
}

func TestTheOrderIsTotal(t *testing.T) {
	l := allNames()
	for _, a := range l {
		for _, b := range l {
			ab := name.Compare(a, b)
			if ab != -name.Compare(b, a) || (ab == 0) != name.Alike(a, b) {
				t.Errorf("%s and %s: %d", brief(a), brief(b), ab)
			}
			for _, c := range l {
				if ab <= 0 && name.Compare(b, c) <= 0 && name.Compare(a, c) > 0 {
					t.Errorf("%s, %s and %s", brief(a), brief(b), brief(c))
				}
			}
		}
	}
}

// All promises, with every short string and with random ones

func TestEveryShortString(t *testing.T) {
	var short []string
	all := []string{""}
	for len(all[0]) <= 6 {
		var longer []string
		for _, n := range all {
			checkAll(t, n)
			if isName(n) && len(n) <= 5 {
				short = append(short, n)
			}
			for _, c := range []string{"\x00", "\x01", "\x02", "A", "a", "*"} {
				longer = append(longer, n+c)
			}
		}
		all = longer
	}
	for _, a := range short {
		for _, b := range short {
			checkPair(t, a, b)
		}
	}
}

func randomName(r *rand.Rand) string {
	parts := []string{"a", "A", "b", "aB", "Ab", "*", "\x00", "\x01a", "\x80", "\xff", "abc", "[", "@"}
	var labels []string
	for range r.Intn(5) {
		labels = append(labels, parts[r.Intn(len(parts))]+parts[r.Intn(len(parts))][:r.Intn(2)])
	}
	return wire(labels...)
}

func TestRandomNames(t *testing.T) {
	r := rand.New(rand.NewSource(71))
	for range 20000 {
		a, b := randomName(r), randomName(r)
		if r.Intn(2) == 0 {
			b = a[:len(a)-1] + b
		}
		checkAll(t, a)
		checkAll(t, b)
		checkPair(t, a, b)
	}
}

// Names with a changed byte, without a byte or with one more are hardly ever names.
func TestRandomStrings(t *testing.T) {
	r := rand.New(rand.NewSource(72))
	for range 20000 {
		n := randomName(r)
		at := r.Intn(len(n))
		c := string([]byte{byte(r.Intn(256))})
		switch r.Intn(3) {
		case 0:
			n = n[:at] + c + n[at+1:]
		case 1:
			n = n[:at] + n[at+1:]
		case 2:
			n = n[:at] + c + n[at:]
		}
		checkAll(t, n)
	}
}

// R5, R7

func TestResultsAreNewMemory(t *testing.T) {
	n := "\x01a\x02bc\x00"
	l, _ := name.Labels(n)
	l[0] = "changed"
	checkLabels(t, n, []string{"a", "bc"}, api.OK)
}

func TestArgumentsAreNotModified(t *testing.T) {
	whole := []string{"a", "bc", "spare", "spare"}
	checkOf(t, whole[:2], "\x01a\x02bc\x00", api.OK)
	if !slices.Equal(whole, []string{"a", "bc", "spare", "spare"}) {
		t.Errorf("the labels are %q", whole)
	}
}

func TestCallsDoNotDependOnEarlierOnes(t *testing.T) {
	for range 3 {
		checkAll(t, "\x01A\x02bC\x00")
		checkAll(t, "\x01A\x02bC")
		checkPair(t, "\x01a\x02bc\x00", "\x02bC\x00")
		checkAll(t, "\x00")
	}
}
