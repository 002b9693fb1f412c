package dotted_test

import (
	"bytes"
	"fmt"
	"math/rand"
	"regexp"
	"slices"
	"strconv"
	"strings"
	"testing"

	"beadroll/api"
	"beadroll/dotted"
)

const (
	maxName  = 255
	maxLabel = 63
)

// longest is a name of MaxName bytes, tooLong what would be one with a byte more.
var (
	longest = wire(letters(63), letters(63), letters(63), letters(61))
	tooLong = wire(letters(63), letters(63), letters(63), letters(62))
)

// wrong are strings that are not names.
var wrong = []string{
	"",
	"a",
	"a.",
	".",
	"\\",
	"www.example.",
	"\x01",
	"\x01a",
	"\x00\x00",
	"\x00a",
	"\x01a\x00\x00",
	"\x01a\x00x",
	"\x02a\x00",
	"\x01a\x02b\x00",
	"\x01a\x02bc",
	"\xc0\x0c",
	"\xc0\x0c\x00",
	"\xff",
	"\x40" + letters(64) + "\x00",
	"\x01a\x40" + letters(64) + "\x00",
	"\xff" + letters(255) + "\x00",
	strings.Repeat("\x01a", 127),
	strings.Repeat("\x01a", 128) + "\x00",
	strings.Repeat("\x01a", 100000) + "\x00",
	tooLong,
}

func letters(n int) string {
	return strings.Repeat("a", n)
}

func wire(labels ...string) string {
	n := ""
	for _, l := range labels {
		n += string([]byte{byte(len(l))}) + l
	}
	return n + "\x00"
}

func single(c int) string {
	return string([]byte{byte(c)})
}

// The chapter's texts as a grammar, over runes that stand for one byte each.
const (
	ofLabel = `(?:[^.\\]|\\[01][0-9][0-9]|\\2[0-4][0-9]|\\25[0-5]|\\[^0-9])`
	label   = ofLabel + `+\.`
)

var (
	grammar = regexp.MustCompile(`(?s)^(?:\.|(?:` + label + `)+)$`)
	aLabel  = regexp.MustCompile(`(?s)` + label)
	aByte   = regexp.MustCompile(`(?s)` + ofLabel)
)

func runes(s string) string {
	r := make([]rune, len(s))
	for i := range len(s) {
		r[i] = rune(s[i])
	}
	return string(r)
}

// modelByte is what one match of aByte stands for.
func modelByte(part string) byte {
	r := []rune(part)
	if len(r) == 4 {
		value, _ := strconv.Atoi(part[1:])
		return byte(value)
	}
	return byte(r[len(r)-1])
}

func modelRead(s string) (string, api.Errno) {
	s = runes(s)
	if !grammar.MatchString(s) {
		return "", api.ErrForm
	}
	var labels []string
	for _, text := range aLabel.FindAllString(s, -1) {
		l := []byte{}
		for _, part := range aByte.FindAllString(strings.TrimSuffix(text, "."), -1) {
			l = append(l, modelByte(part))
		}
		if len(l) > maxLabel {
			return "", api.ErrLong
		}
		labels = append(labels, string(l))
	}
	if n := wire(labels...); len(n) <= maxName {
		return n, api.OK
	}
	return "", api.ErrLong
}

// modelLabels expects a name.
func modelLabels(n string) []string {
	var l []string
	for n != "\x00" {
		l = append(l, n[1:1+n[0]])
		n = n[1+n[0]:]
	}
	return l
}

func modelText(n string) string {
	if n == "\x00" {
		return "."
	}
	s := ""
	for _, l := range modelLabels(n) {
		for _, c := range []byte(l) {
			if c == '.' || c == '\\' {
				s += "\\" + string(c)
			} else if c > ' ' && c < 0x7f {
				s += string(c)
			} else {
				s += fmt.Sprintf("\\%03d", c)
			}
		}
		s += "."
	}
	return s
}

// modelKey makes of a name what is before what it makes of another one if the name is: its folded labels from the last
// one, each byte behind a 1 and each label with a 0 at its end.
func modelKey(n string) string {
	var key []byte
	for _, l := range slices.Backward(modelLabels(n)) {
		for _, c := range []byte(l) {
			if 'A' <= c && c <= 'Z' {
				c += 'a' - 'A'
			}
			key = append(key, 1, c)
		}
		key = append(key, 0)
	}
	return string(key)
}

// modelLine expects names. It inserts each one before the first one that is greater.
func modelLine(l []string) string {
	var names []string
	for _, n := range l {
		at := 0
		for at < len(names) && modelKey(names[at]) <= modelKey(n) {
			at++
		}
		names = slices.Insert(names, at, n)
	}
	for i, n := range names {
		names[i] = modelText(n)
	}
	return strings.Join(names, " ")
}

// brief is s for a message, without most of a long text.
func brief(s string) string {
	if len(s) > 60 {
		return fmt.Sprintf("%q.. (%d bytes)", s[:60], len(s))
	}
	return fmt.Sprintf("%q", s)
}

func checkText(t *testing.T, n, want string) {
	t.Helper()
	if got := dotted.Text(n); got != want {
		t.Errorf("Text(%s) = %s; want %s", brief(n), brief(got), brief(want))
	}
}

func checkRead(t *testing.T, s, want string, wantE api.Errno) {
	t.Helper()
	if got, e := dotted.Read(s); got != want || e != wantE {
		t.Errorf("Read(%s) = %s, %v; want %s, %v", brief(s), brief(got), e, brief(want), wantE)
	}
}

func checkForm(t *testing.T, texts ...string) {
	t.Helper()
	for _, s := range texts {
		checkRead(t, s, "", api.ErrForm)
	}
}

func checkLine(t *testing.T, l []string, want string) {
	t.Helper()
	if got := dotted.Line(l); got != want {
		t.Errorf("Line(%s) = %s; want %s", brief(fmt.Sprintf("%q", l)), brief(got), brief(want))
	}
}

// checkBoth checks a name with its text.
func checkBoth(t *testing.T, n, s string) {
	t.Helper()
	checkText(t, n, s)
	checkRead(t, s, n, api.OK)
}

// checkModel compares the reading of any text with the model's.
func checkModel(t *testing.T, s string) {
	t.Helper()
	n, e := modelRead(s)
	checkRead(t, s, n, e)
	if e == api.OK {
		checkText(t, n, modelText(n))
	}
}

// P8.1: Text

func TestTextOfNames(t *testing.T) {
	checkText(t, "\x03www\x00", "www.")
	checkText(t, "\x03wWw\x02Ex\x00", "wWw.Ex.")
	checkText(t, "\x01*\x02ex\x00", "*.ex.")
	checkText(t, "\x01a\x02bc\x03d-e\x04_f9!\x00", "a.bc.d-e._f9!.")
}

func TestTextOfTheRoot(t *testing.T) {
	checkText(t, "\x00", ".")
}

func TestTextOfDotAndBackslash(t *testing.T) {
	checkText(t, "\x01.\x00", "\\..")
	checkText(t, "\x01\\\x00", "\\\\.")
	checkText(t, "\x03a.b\x00", "a\\.b.")
	checkText(t, "\x03a\\b\x00", "a\\\\b.")
	checkText(t, "\x04\\.\\.\x01b\x00", "\\\\\\.\\\\\\..b.")
	checkText(t, "\x05\\0650\x00", "\\\\0650.")
}

func TestTextOfBytesThatAreWrittenAsDigits(t *testing.T) {
	checkText(t, "\x01\x00\x00", "\\000.")
	checkText(t, "\x01\x01\x00", "\\001.")
	checkText(t, "\x01\x0a\x00", "\\010.")
	checkText(t, "\x01\x1f\x00", "\\031.")
	checkText(t, "\x01 \x00", "\\032.")
	checkText(t, "\x01!\x00", "!.")
	checkText(t, "\x01~\x00", "~.")
	checkText(t, "\x01\x7f\x00", "\\127.")
	checkText(t, "\x01\x80\x00", "\\128.")
	checkText(t, "\x01\xc8\x00", "\\200.")
	checkText(t, "\x01\xff\x00", "\\255.")
	checkText(t, "\x02\xc3\xa4\x00", "\\195\\164.")
	checkText(t, "\x03\x001\x00\x00", "\\0001\\000.")
}

func TestTextOfEveryByte(t *testing.T) {
	plain := "!\"#$%&'()*+,-/0123456789:;<=>?@ABCDEFGHIJKLMNOPQRSTUVWXYZ[]^_`abcdefghijklmnopqrstuvwxyz{|}~"
	for c := range 256 {
		want := fmt.Sprintf("\\%03d", c)
		if strings.IndexByte(plain, byte(c)) >= 0 {
			want = single(c)
		} else if c == '.' || c == '\\' {
			want = "\\" + single(c)
		}
		checkText(t, wire(single(c)), want+".")
		checkText(t, wire("a"+single(c)+"0", single(c)), "a"+want+"0."+want+".")
	}
}

func TestTextOfLabelsThatLookLikeNames(t *testing.T) {
	checkText(t, "\x03\x01a\x00\x00", "\\001a\\000.")
	checkText(t, "\x02\xc0\x0c\x01b\x00", "\\192\\012.b.")
	checkText(t, "\x03\x00\x00\x00\x00", "\\000\\000\\000.")
}

func TestTextOfLongNames(t *testing.T) {
	long := letters(63) + "."
	checkText(t, wire(letters(63)), long)
	checkText(t, longest, long+long+long+letters(61)+".")
	checkText(t, wire(slices.Repeat([]string{"\xff"}, 127)...), strings.Repeat("\\255.", 127))
	checkText(t, wire(strings.Repeat(".", 63), strings.Repeat(" ", 63)), strings.Repeat("\\.", 63)+"."+strings.Repeat("\\032", 63)+".")
}

func TestTextOfStringsThatAreNoNames(t *testing.T) {
	for _, n := range wrong {
		checkText(t, n, "")
	}
}

// P8.1: Read

func TestReadNames(t *testing.T) {
	checkRead(t, "www.", "\x03www\x00", api.OK)
	checkRead(t, "wWw.Ex.", "\x03wWw\x02Ex\x00", api.OK)
	checkRead(t, "*.ex.", "\x01*\x02ex\x00", api.OK)
	checkRead(t, "a.bc.d-e._f9!.", "\x01a\x02bc\x03d-e\x04_f9!\x00", api.OK)
	checkRead(t, "012.3.", "\x03012\x013\x00", api.OK)
}

func TestReadTheRoot(t *testing.T) {
	checkRead(t, ".", "\x00", api.OK)
}

func TestReadTheEmptyText(t *testing.T) {
	checkForm(t, "")
}

// The example of the chapter.
func TestReadTheExample(t *testing.T) {
	checkRead(t, "\x5c\x30\x36\x35\x5c\x2e\x62\x2e", wire("A.b"), api.OK)
}

func TestReadTextsWithoutADotAtTheirEnd(t *testing.T) {
	checkForm(t, "a", "www", "a.b", "www.Ex", ".a", "a\\.", "a.b\\.", "\\.", "\\\\\\.", "\\065", "a.\\065", " ", "*")
}

func TestReadEmptyLabels(t *testing.T) {
	checkForm(t, "..", "...", ".a.", "..a.", "a..", "a...", "a..b.", "a.b..", "a...b.", ".\\..", "\\...")
	checkForm(t, strings.Repeat(".", 1000), letters(63)+".."+letters(63)+".")
}

func TestReadABackslashAtTheEnd(t *testing.T) {
	checkForm(t, "\\", "a\\", "a.\\", ".\\", "a.b.\\", "\\\\\\", "\\.\\", "\\065\\", "a.\\\\\\")
}

func TestReadOneOrTwoDigits(t *testing.T) {
	checkForm(t, "\\0", "\\00", "\\0.", "\\00.", "\\9.", "\\12.", "a.\\2", "a.\\25", "a.\\25.", "a\\1b.", "a\\12b.b.", "\\1a2.", "\\12a.", "\\1.2.", "\\12.3.")
	checkForm(t, "\\1\\2.", "\\12\\3.", "\\1\\065.", "\\06 5.", "\\0 65.", "\\06:.", "\\06/.", "\\0:5.", "\\0/5.", "\\06\xb5.")
}

func TestReadEveryNumberOfThreeDigits(t *testing.T) {
	for value := range 1000 {
		s := fmt.Sprintf("\\%03d", value)
		if value > 255 {
			checkForm(t, s+".", "a"+s+"b.", "a."+s+".b.", s, s+"0.", s+s+".")
			continue
		}
		c := single(value)
		checkRead(t, s+".", wire(c), api.OK)
		checkRead(t, s+"5."+s+s+".a.", wire(c+"5", c+c, "a"), api.OK)
		checkForm(t, s, s+"..", "."+s+".")
	}
}

func TestReadDigitsOfOrdinaryBytes(t *testing.T) {
	checkRead(t, "\\065\\098.", "\x02Ab\x00", api.OK)
	checkRead(t, "\\046.", "\x01.\x00", api.OK)
	checkRead(t, "\\092.", "\x01\\\x00", api.OK)
	checkRead(t, "\\092065.", "\x04\\065\x00", api.OK)
	checkRead(t, "\\092.065.", "\x01\\\x03065\x00", api.OK)
	checkRead(t, "\\0485.", "\x0205\x00", api.OK)
	checkRead(t, "\\042.", "\x01*\x00", api.OK)
	checkRead(t, "\\+65.", "\x03+65\x00", api.OK)
}

func TestReadEveryByteAfterABackslash(t *testing.T) {
	for c := range 256 {
		s := "\\" + single(c)
		if '0' <= c && c <= '9' {
			checkForm(t, s+".", "a"+s+"a.", s+"\\.")
			continue
		}
		checkRead(t, s+".", wire(single(c)), api.OK)
		checkRead(t, "a"+s+"0.b.", wire("a"+single(c)+"0", "b"), api.OK)
		checkRead(t, s+s+"."+s+".", wire(single(c)+single(c), single(c)), api.OK)
		checkForm(t, s)
	}
}

func TestReadDotAndBackslashAfterABackslash(t *testing.T) {
	checkRead(t, "\\..", "\x01.\x00", api.OK)
	checkRead(t, "\\\\.", "\x01\\\x00", api.OK)
	checkRead(t, "\\.\\..", "\x02..\x00", api.OK)
	checkRead(t, "a\\.b.", "\x03a.b\x00", api.OK)
	checkRead(t, "\\\\.a.", "\x01\\\x01a\x00", api.OK)
	checkRead(t, "\\\\\\..", "\x02\\.\x00", api.OK)
	checkRead(t, "\\\\065.", "\x04\\065\x00", api.OK)
	checkForm(t, "\\.", "\\\\", "\\\\\\.", "\\\\..", "\\...")
}

func TestReadEveryByteThatStandsForItself(t *testing.T) {
	for c := range 256 {
		if c == '.' || c == '\\' {
			continue
		}
		checkRead(t, single(c)+".", wire(single(c)), api.OK)
		checkRead(t, "a"+single(c)+"."+single(c)+single(c)+".", wire("a"+single(c), single(c)+single(c)), api.OK)
		checkForm(t, single(c), single(c)+"..", "."+single(c)+".")
	}
	checkRead(t, "ä. .\x00\x7f\xff.", "\x02\xc3\xa4\x01 \x03\x00\x7f\xff\x00", api.OK)
	checkRead(t, "\\ä.", "\x02\xc3\xa4\x00", api.OK)
}

func TestReadTheBytesOfNames(t *testing.T) {
	checkForm(t, "\x00", "\x03www\x00", "\x01.\x01")
	checkRead(t, "\x01a\x00.", "\x03\x01a\x00\x00", api.OK)
}

func TestReadLongLabels(t *testing.T) {
	for _, s := range []string{"a", "\\a", "\\097"} {
		l := strings.Repeat(s, 63)
		checkRead(t, l+".", wire(letters(63)), api.OK)
		checkRead(t, "b."+l+".", wire("b", letters(63)), api.OK)
		checkRead(t, strings.Repeat(s, 62)+".", wire(letters(62)), api.OK)
		for _, size := range []int{64, 65, 127, 128, 192, 255, 256, 257, 256 + 63, 65536, 65537} {
			l := strings.Repeat(s, size)
			checkRead(t, l+".", "", api.ErrLong)
			checkRead(t, "b."+l+".", "", api.ErrLong)
			checkRead(t, l+".b.", "", api.ErrLong)
		}
	}
	checkRead(t, strings.Repeat("\\.", 63)+".", wire(strings.Repeat(".", 63)), api.OK)
	checkRead(t, strings.Repeat("\\.", 64)+".", "", api.ErrLong)
	checkRead(t, letters(63)+"\\..", "", api.ErrLong)
}

func TestReadLongNames(t *testing.T) {
	for _, s := range []string{"a", "\\a", "\\097"} {
		long := strings.Repeat(s, 63) + "."
		checkRead(t, long+long+long+strings.Repeat(s, 61)+".", longest, api.OK)
		checkRead(t, long+long+long+strings.Repeat(s, 62)+".", "", api.ErrLong)
		checkRead(t, long+long+long+long, "", api.ErrLong)
		checkRead(t, strings.Repeat(s+".", 127), wire(slices.Repeat([]string{"a"}, 127)...), api.OK)
		checkRead(t, strings.Repeat(s+".", 126)+s+s+".", "", api.ErrLong)
		for _, labels := range []int{128, 129, 255, 256, 257, 100000} {
			checkRead(t, strings.Repeat(s+".", labels), "", api.ErrLong)
		}
	}
}

func TestReadReturnsErrFormBeforeErrLong(t *testing.T) {
	long := letters(64)
	checkForm(t, long, long+"\\.", long+"..", "."+long+".", long+"..a.", "a.."+long+".")
	checkForm(t, long+"\\", long+".\\", long+"\\25.", long+".\\25.", "\\25."+long+".", long+".\\256.", "\\256"+long+".", long+".a")
	checkForm(t, strings.Repeat("a.", 128)+"a", strings.Repeat("a.", 128)+".", "."+strings.Repeat("a.", 128), strings.Repeat("a.", 128)+"\\1.", "\\1."+strings.Repeat("a.", 128))
	checkForm(t, strings.Repeat("a.", 127)+".", strings.Repeat("a.", 127)+"a", strings.Repeat("a.", 100000)+"\\")
}

// P8.1: Line

func TestLineOfNoNames(t *testing.T) {
	checkLine(t, nil, "")
	checkLine(t, []string{}, "")
}

func TestLineOfOneName(t *testing.T) {
	checkLine(t, []string{"\x00"}, ".")
	checkLine(t, []string{"\x03wWw\x02Ex\x00"}, "wWw.Ex.")
	checkLine(t, []string{"\x03a b\x00"}, "a\\032b.")
}

func TestLineOmitsWhatIsNoName(t *testing.T) {
	checkLine(t, wrong, "")
	for _, n := range wrong {
		checkLine(t, []string{n}, "")
		checkLine(t, []string{n, n}, "")
		checkLine(t, []string{n, "\x01b\x00", "\x01a\x00"}, "a. b.")
		checkLine(t, []string{"\x01b\x00", n, "\x01a\x00"}, "a. b.")
		checkLine(t, []string{"\x01b\x00", "\x01a\x00", n}, "a. b.")
		checkLine(t, []string{n, "\x01b\x00", n, n, "\x00", n}, ". b.")
	}
	mixed := []string{"\x01b\x00"}
	for i, n := range wrong {
		mixed = append(mixed, n, wire(single('z'-i)))
	}
	checkLine(t, mixed, "b. b. c. d. e. f. g. h. i. j. k. l. m. n. o. p. q. r. s. t. u. v. w. x. y. z.")
}

func TestLineInOrder(t *testing.T) {
	// The example of RFC 4034, 6.1, behind the root.
	l := []string{"\x00", wire("example"), wire("a", "example"), wire("yljkjljk", "a", "example"), wire("Z", "a", "example"),
		wire("zABC", "a", "EXAMPLE"), wire("z", "example"), wire("\x01", "z", "example"), wire("*", "z", "example"), wire("\xc8", "z", "example")}
	want := ". example. a.example. yljkjljk.a.example. Z.a.example. zABC.a.EXAMPLE. z.example. \\001.z.example. *.z.example. \\200.z.example."
	checkLine(t, l, want)
	slices.Reverse(l)
	checkLine(t, l, want)
	r := rand.New(rand.NewSource(81))
	for range 200 {
		r.Shuffle(len(l), func(i, k int) { l[i], l[k] = l[k], l[i] })
		checkLine(t, l, want)
	}
}

// The order of the names is not that of their texts.
func TestLineIsNotInTheOrderOfTheTexts(t *testing.T) {
	checkLine(t, []string{wire("a", "b"), wire("b", "a")}, "b.a. a.b.")
	checkLine(t, []string{wire("\xff"), wire("!"), wire("a")}, "!. a. \\255.")
	checkLine(t, []string{wire("."), wire("-"), wire("/")}, "-. \\.. /.")
	checkLine(t, []string{wire("]"), wire("\\"), wire("[")}, "[. \\\\. ].")
	checkLine(t, []string{wire("B"), wire("a"), wire("_")}, "_. a. B.")
}

func TestLineOfNamesThatDifferInCase(t *testing.T) {
	checkLine(t, []string{wire("a"), wire("A")}, "a. A.")
	checkLine(t, []string{wire("A"), wire("a")}, "A. a.")
	checkLine(t, []string{wire("b"), wire("A", "Ex"), wire("a", "eX"), wire("A", "ex")}, "b. A.Ex. a.eX. A.ex.")
	checkLine(t, []string{wire("a", "eX"), wire("A", "ex"), wire("A", "Ex"), wire("b")}, "b. a.eX. A.ex. A.Ex.")
	checkLine(t, []string{wire("B"), wire("A"), wire("b"), wire("a"), wire("B")}, "A. a. B. b. B.")
}

func TestLineOfManyNamesThatDifferInCase(t *testing.T) {
	var cases []string
	for i := range 128 {
		b := []byte("abcdefg")
		for k := range b {
			if i>>k&1 == 1 {
				b[k] -= 'a' - 'A'
			}
		}
		cases = append(cases, wire(string(b)), wire("x", string(b)))
	}
	r := rand.New(rand.NewSource(82))
	for range 20 {
		r.Shuffle(len(cases), func(i, k int) { cases[i], cases[k] = cases[k], cases[i] })
		checkLine(t, cases, modelLine(cases))
	}
}

func TestLineOfEqualNames(t *testing.T) {
	checkLine(t, []string{"\x00", "\x00"}, ". .")
	checkLine(t, []string{wire("b"), wire("a"), wire("b"), wire("a"), wire("a")}, "a. a. a. b. b.")
	checkLine(t, slices.Repeat([]string{wire("ab", "c")}, 100), strings.TrimSuffix(strings.Repeat("ab.c. ", 100), " "))
}

func TestLineOfLongNames(t *testing.T) {
	text := letters(63) + "." + letters(63) + "." + letters(63) + "." + letters(61) + "."
	checkLine(t, []string{tooLong, longest, longest, wire("a")}, "a. "+text+" "+text)
}

// P8.2

func TestReadTheTextOfANameIsTheName(t *testing.T) {
	checkBoth(t, "\x00", ".")
	checkBoth(t, "\x04a.b\\\x00", "a\\.b\\\\.")
	checkBoth(t, "\x03\x00 \xff\x00", "\\000\\032\\255.")
	for c := range 256 {
		for d := range 256 {
			n := wire(single(c)+single(d), single(d))
			checkBoth(t, n, modelText(n))
		}
	}
	for size := 1; size <= maxLabel; size++ {
		for _, c := range []string{"a", ".", "\\", "0", "\x00", " ", "\xff"} {
			n := wire(strings.Repeat(c, size))
			checkBoth(t, n, modelText(n))
		}
	}
	for labels := 1; labels <= 127; labels++ {
		n := wire(slices.Repeat([]string{"."}, labels)...)
		checkBoth(t, n, modelText(n))
	}
	checkBoth(t, longest, modelText(longest))
	checkBoth(t, strings.ReplaceAll(longest, "a", "\x80"), strings.ReplaceAll(modelText(longest), "a", "\\128"))
}

// Both promises, with every short text and with random ones

func TestEveryShortText(t *testing.T) {
	all := []string{""}
	for len(all[0]) <= 6 {
		var longer []string
		for _, s := range all {
			checkModel(t, s)
			for _, c := range []string{".", "\\", "0", "2", "5", "6", "a"} {
				longer = append(longer, s+c)
			}
		}
		all = longer
	}
}

func randomName(r *rand.Rand) string {
	usual := "aAbB*-.\\09 \x00\x80\xff"
	labels := make([]string, r.Intn(4))
	for i := range labels {
		for range 1 + r.Intn(4) {
			if r.Intn(4) == 0 {
				labels[i] += single(r.Intn(256))
			} else {
				labels[i] += usual[r.Intn(len(usual)):][:1]
			}
		}
	}
	return wire(labels...)
}

func TestRandomNames(t *testing.T) {
	r := rand.New(rand.NewSource(83))
	for range 50000 {
		n := randomName(r)
		checkBoth(t, n, modelText(n))
	}
}

func TestRandomTexts(t *testing.T) {
	r := rand.New(rand.NewSource(84))
	parts := []string{".", ".", "\\", "\\.", "\\\\", "\\0", "\\06", "\\065", "\\25", "\\255", "\\256", "\\999", "0", "5", "a", "B", "ä", "\xff", " ", letters(31), letters(32)}
	for range 50000 {
		s := ""
		for range r.Intn(20) {
			s += parts[r.Intn(len(parts))]
		}
		checkModel(t, s)
		checkModel(t, s+".")
	}
}

// A text with a changed byte, without a byte or with one more can be one or not.
func TestRandomChanges(t *testing.T) {
	r := rand.New(rand.NewSource(85))
	for range 50000 {
		s := modelText(randomName(r))
		at := r.Intn(len(s))
		c := single(r.Intn(256))
		if r.Intn(2) == 0 {
			c = ".\\0259"[r.Intn(6):][:1]
		}
		switch r.Intn(3) {
		case 0:
			s = s[:at] + c + s[at+1:]
		case 1:
			s = s[:at] + s[at+1:]
		case 2:
			s = s[:at] + c + s[at:]
		}
		checkModel(t, s)
	}
}

func TestRandomLines(t *testing.T) {
	r := rand.New(rand.NewSource(86))
	for range 2000 {
		var l, names []string
		for range r.Intn(40) {
			n := randomName(r)
			switch {
			case len(names) > 0 && r.Intn(4) == 0: // alike, or equal
				n = inOtherCase(r, names[r.Intn(len(names))])
			case r.Intn(8) == 0:
				l = append(l, n[:len(n)-1])
			}
			l, names = append(l, n), append(names, n)
		}
		checkLine(t, l, modelLine(names))
	}
}

// inOtherCase changes the case of some letters of a name.
func inOtherCase(r *rand.Rand, n string) string {
	b := []byte(n)
	for i, c := range b {
		if strings.IndexByte("aAbB", c) >= 0 && r.Intn(2) == 0 {
			b[i] = c ^ 0x20
		}
	}
	return string(b)
}

// R5, R7

func TestLineDoesNotChangeTheList(t *testing.T) {
	whole := []string{"\x01c\x00", "no name", "\x01b\x00", "\x01A\x00", "", "\x01a\x00", "\x01z\x00", "\x00", "spare"}
	before := slices.Clone(whole)
	checkLine(t, whole[:6], "A. a. b. c.")
	checkLine(t, whole[:1], "c.")
	checkLine(t, whole[:0], "")
	if !slices.Equal(whole, before) {
		t.Errorf("the list is %q", whole)
	}
}

func TestCallsDoNotDependOnEarlierOnes(t *testing.T) {
	for range 3 {
		checkBoth(t, "\x02a.\x00", "a\\..")
		checkForm(t, "a\\.")
		checkRead(t, letters(64)+".", "", api.ErrLong)
		checkLine(t, []string{"\x01b\x00", "\x01a\x00"}, "a. b.")
		checkText(t, "\x01", "")
	}
}

// The order of the model's keys is compared with that of the lists of labels, which the keys stand for.
func TestModelKeys(t *testing.T) {
	r := rand.New(rand.NewSource(87))
	folded := func(n string) [][]byte {
		var l [][]byte
		for _, s := range slices.Backward(modelLabels(n)) {
			l = append(l, []byte(regexp.MustCompile("[A-Z]").ReplaceAllStringFunc(s, strings.ToLower)))
		}
		return l
	}
	for range 2000 {
		a, b := randomName(r), randomName(r)
		if got, want := strings.Compare(modelKey(a), modelKey(b)), slices.CompareFunc(folded(a), folded(b), bytes.Compare); got != want {
			t.Errorf("%q and %q: %d; want %d", a, b, got, want)
		}
	}
}
