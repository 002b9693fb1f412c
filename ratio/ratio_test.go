package ratio_test

import (
	"math"
	"math/big"
	"math/rand"
	"slices"
	"testing"

	"beadroll/ratio"
)

const (
	smallest = math.SmallestNonzeroFloat64
	normal   = 0x1p-1022 // the smallest number with all its bits
	greatest = math.MaxFloat64
	top      = 1 << 63
)

var (
	minus = math.Copysign(0, -1)
	inf   = math.Inf(1)
	nan   = math.NaN()
	// A NaN whose sign bit is set, and one with other bits.
	nanMinus = math.Float64frombits(math.Float64bits(nan) | 1<<63)
	nanOther = math.Float64frombits(0x7ff8000000000123)
	nans     = []float64{nan, nanMinus, nanOther}
)

// ascending are numbers in their order, each one before the next.
var ascending = []float64{
	-inf, -greatest, -1e300, math.Nextafter(-top, -inf), -top, math.Nextafter(-top, 0), -1e6, -5, math.Nextafter(-1, -2), -1, -0.5,
	-normal, -2 * smallest, -smallest, minus, 0, smallest, 2 * smallest, normal,
	0.5, 1, math.Nextafter(1, 2), 2, 3, 5, 1e6, math.Nextafter(top, 0), top, math.Nextafter(top, inf), 1e300, greatest, inf, nan,
}

// all are the numbers of ascending and the other NaNs.
var all = append(slices.Clone(ascending), nanMinus, nanOther)

// place is the chapter's order, without comparisons of floats: the bits of a number, read as an integer.
func place(x float64) uint64 {
	b := math.Float64bits(x)
	switch {
	case b<<1 > 0xffe0000000000000: // NaN, whatever its sign
		return math.MaxUint64
	case b>>63 == 1:
		return ^b
	}
	return b | 1<<63
}

func wantOrder(a, b float64) int {
	p, q := place(a), place(b)
	switch {
	case p < q:
		return -1
	case p > q:
		return 1
	}
	return 0
}

// same tells the zeros apart, and takes all NaNs for one.
func same(a, b float64) bool {
	return math.Float64bits(a) == math.Float64bits(b) || math.IsNaN(a) && math.IsNaN(b)
}

// random returns numbers of all kinds: any bits, numbers near one another and special ones.
func random(r *rand.Rand) float64 {
	switch r.Intn(4) {
	case 0:
		return math.Float64frombits(r.Uint64())
	case 1:
		return all[r.Intn(len(all))]
	case 2:
		return float64(r.Intn(9) - 4)
	}
	return math.Float64frombits(math.Float64bits(all[r.Intn(len(all))]) + uint64(r.Intn(3)) - 1)
}

// isSpecial reports whether division needs a rule of its own for x.
func isSpecial(x float64) bool {
	return math.IsNaN(x) || math.IsInf(x, 0) || x == 0
}

func checkOrder(t *testing.T, a, b float64, want int) {
	t.Helper()
	if got := ratio.Order(a, b); got != want {
		t.Errorf("Order(%v, %v) = %d; want %d", a, b, got, want)
	}
}

func checkLeast(t *testing.T, l []float64, want float64) {
	t.Helper()
	if got, ok := ratio.Least(l); !ok || !same(got, want) {
		t.Errorf("Least(%v) = %v, %v; want %v", l, got, ok, want)
	}
}

func checkShare(t *testing.T, part, whole, want float64) {
	t.Helper()
	if got := ratio.Share(part, whole); !same(got, want) {
		t.Errorf("Share(%v, %v) = %v; want %v", part, whole, got, want)
	}
}

func checkAbove(t *testing.T, part, whole, limit float64, want bool) {
	t.Helper()
	if got := ratio.Above(part, whole, limit); got != want {
		t.Errorf("Above(%v, %v, %v) = %v", part, whole, limit, got)
	}
}

func checkClamp(t *testing.T, x, low, high, want float64) {
	t.Helper()
	if got := ratio.Clamp(x, low, high); !same(got, want) {
		t.Errorf("Clamp(%v, %v, %v) = %v; want %v", x, low, high, got, want)
	}
}

func checkWhole(t *testing.T, x float64, want int, wantOk bool) {
	t.Helper()
	if n, ok := ratio.Whole(x); n != want || ok != wantOk {
		t.Errorf("Whole(%v) = %d, %v; want %d, %v", x, n, ok, want, wantOk)
	}
}

// P3.1: Order

func TestOrderOfZeros(t *testing.T) {
	checkOrder(t, minus, 0, -1)
	checkOrder(t, 0, minus, 1)
	checkOrder(t, 0, 0, 0)
	checkOrder(t, minus, minus, 0)
	checkOrder(t, -smallest, minus, -1)
	checkOrder(t, minus, -smallest, 1)
	checkOrder(t, 0, smallest, -1)
	checkOrder(t, smallest, 0, 1)
}

func TestOrderOfInfinities(t *testing.T) {
	checkOrder(t, -inf, -inf, 0)
	checkOrder(t, inf, inf, 0)
	checkOrder(t, -inf, inf, -1)
	checkOrder(t, inf, -inf, 1)
	checkOrder(t, -inf, -greatest, -1)
	checkOrder(t, inf, greatest, 1)
}

func TestOrderOfNaN(t *testing.T) {
	for _, n := range nans {
		for _, m := range nans {
			checkOrder(t, n, m, 0)
		}
		for _, x := range ascending[:len(ascending)-1] {
			checkOrder(t, n, x, 1)
			checkOrder(t, x, n, -1)
		}
	}
}

func TestOrderOfAllPairs(t *testing.T) {
	for i, a := range ascending {
		for k, b := range ascending {
			checkOrder(t, a, b, wantOrder(float64(i), float64(k)))
		}
	}
}

func TestOrderOfRandomNumbers(t *testing.T) {
	r := rand.New(rand.NewSource(3))
	for range 100000 {
		a, b := random(r), random(r)
		checkOrder(t, a, b, wantOrder(a, b))
		checkOrder(t, a, a, 0)
	}
}

// P3.1: Least

func TestLeastOfNothing(t *testing.T) {
	for _, l := range [][]float64{nil, {}, all[:0]} {
		if x, ok := ratio.Least(l); ok || !same(x, 0) {
			t.Errorf("Least of an empty list = %v, %v", x, ok)
		}
	}
}

func TestLeast(t *testing.T) {
	checkLeast(t, []float64{3, 1, 2}, 1)
	checkLeast(t, []float64{1, 2, 3}, 1)
	checkLeast(t, []float64{3, 2, 1}, 1)
	checkLeast(t, []float64{2, 2}, 2)
	checkLeast(t, []float64{0, minus, 0}, minus)
	checkLeast(t, []float64{minus, 0}, minus)
	checkLeast(t, []float64{nan, 7}, 7)
	checkLeast(t, []float64{7, nan}, 7)
	checkLeast(t, []float64{nan, inf}, inf)
	checkLeast(t, []float64{nan, inf, -inf, 0}, -inf)
	for _, x := range all {
		checkLeast(t, []float64{x}, x)
	}
}

func TestLeastOfEqualNumbersIsTheFirst(t *testing.T) {
	// Only NaNs are equal and still distinguishable.
	for _, l := range [][]float64{{nan, nanMinus, nanOther}, {nanMinus, nanOther, nan}, {nanOther, nan, nanMinus}} {
		x, ok := ratio.Least(l)
		if !ok || math.Float64bits(x) != math.Float64bits(l[0]) {
			t.Errorf("Least of NaNs = %x, %v; want %x", math.Float64bits(x), ok, math.Float64bits(l[0]))
		}
	}
}

func TestLeastOfRandomLists(t *testing.T) {
	r := rand.New(rand.NewSource(4))
	for range 20000 {
		l := make([]float64, 1+r.Intn(6))
		for i := range l {
			l[i] = random(r)
		}
		want := l[0]
		for _, x := range l {
			if place(x) < place(want) {
				want = x
			}
		}
		checkLeast(t, l, want)
	}
}

func TestLeastLeavesTheListAlone(t *testing.T) {
	l := append(make([]float64, 0, 8), 3, 1, 2)
	spare := l[:8]
	spare[3] = 9
	before := slices.Clone(spare)
	ratio.Least(l)
	if !slices.Equal(spare, before) {
		t.Errorf("the list became %v", spare)
	}
}

// P3.2: Share

func TestShareOfNaN(t *testing.T) {
	for _, n := range nans {
		for _, x := range all {
			checkShare(t, n, x, nan)
			checkShare(t, x, n, nan)
		}
	}
}

func TestShareOfAnInfiniteWhole(t *testing.T) {
	for _, x := range []float64{0, smallest, normal, 1, 5, greatest} {
		for _, whole := range []float64{inf, -inf} {
			checkShare(t, x, whole, 0)
			checkShare(t, math.Copysign(x, -1), whole, minus)
		}
	}
	for _, part := range []float64{inf, -inf} {
		checkShare(t, part, inf, nan)
		checkShare(t, part, -inf, nan)
	}
}

func TestShareOfAWholeThatIsAZero(t *testing.T) {
	for _, whole := range []float64{0, minus} {
		checkShare(t, 0, whole, 0)
		checkShare(t, minus, whole, minus)
		for _, x := range []float64{smallest, normal, 1, 5, greatest, inf} {
			checkShare(t, x, whole, inf)
			checkShare(t, -x, whole, -inf)
		}
	}
}

func TestShareByDivision(t *testing.T) {
	checkShare(t, 1, 2, 0.5)
	checkShare(t, 1, -2, -0.5)
	checkShare(t, -1, 2, -0.5)
	checkShare(t, -1, -2, 0.5)
	checkShare(t, 1, 3, 1.0/3)
	checkShare(t, 0, 5, 0)
	checkShare(t, 0, -5, minus)
	checkShare(t, minus, 5, minus)
	checkShare(t, minus, -5, 0)
	checkShare(t, inf, 2, inf)
	checkShare(t, inf, -2, -inf)
	checkShare(t, -inf, 2, -inf)
	checkShare(t, -inf, -2, inf)
	checkShare(t, inf, smallest, inf)
	checkShare(t, -inf, greatest, -inf)
}

func TestShareOfExtremes(t *testing.T) {
	checkShare(t, greatest, greatest, 1)
	checkShare(t, smallest, smallest, 1)
	checkShare(t, greatest, 0.5, inf)
	checkShare(t, greatest, -0.5, -inf)
	checkShare(t, greatest, smallest, inf)
	checkShare(t, smallest, greatest, 0)
	checkShare(t, -smallest, greatest, minus)
	checkShare(t, smallest, 2, 0)
	checkShare(t, 3*smallest, 2, 2*smallest)
	checkShare(t, normal, 2, normal/2)
}

func TestShareOfRandomNumbers(t *testing.T) {
	r := rand.New(rand.NewSource(5))
	for range 20000 {
		a, b := random(r), random(r)
		if isSpecial(a) || isSpecial(b) {
			continue
		}
		q := new(big.Rat).Quo(new(big.Rat).SetFloat64(a), new(big.Rat).SetFloat64(b))
		want, _ := q.Float64()
		if want == 0 { // a big.Rat has no negative zero
			want = math.Copysign(0, math.Copysign(1, a)*math.Copysign(1, b))
		}
		checkShare(t, a, b, want)
	}
}

// P3.2: Above

func TestAbove(t *testing.T) {
	checkAbove(t, 3, 2, 1, true)
	checkAbove(t, 3, 2, 1.5, false)
	checkAbove(t, 1, 2, 0.5, false)
	checkAbove(t, 1, 2, math.Nextafter(0.5, 0), true)
	checkAbove(t, 1, 2, math.Nextafter(0.5, 1), false)
	checkAbove(t, -1, 2, -1, true)
	checkAbove(t, -3, 2, -1, false)
	checkAbove(t, smallest, 1, 0, true)
	checkAbove(t, smallest, 1, minus, true)
	checkAbove(t, -smallest, 1, minus, false)
	checkAbove(t, greatest, 1, greatest, false)
}

func TestAboveWithZeros(t *testing.T) {
	for _, share := range []float64{0, minus} {
		for _, limit := range []float64{0, minus} {
			checkAbove(t, share, 1, limit, false)
			checkAbove(t, share, 0, limit, false)
			checkAbove(t, share, minus, limit, false)
			checkAbove(t, share, inf, limit, false)
			checkAbove(t, share, -7, limit, false)
		}
		checkAbove(t, share, 3, -smallest, true)
		checkAbove(t, share, 3, smallest, false)
	}
}

func TestAboveWithInfinities(t *testing.T) {
	checkAbove(t, 1, 0, 3, true)
	checkAbove(t, 1, 0, greatest, true)
	checkAbove(t, 1, 0, inf, false)
	checkAbove(t, 1, 0, -inf, true)
	checkAbove(t, -1, 0, -greatest, false)
	checkAbove(t, -1, 0, -inf, false)
	checkAbove(t, 5, 1, -inf, true)
	checkAbove(t, 5, 1, inf, false)
	checkAbove(t, 5, inf, -1, true)
}

func TestAboveWithNaN(t *testing.T) {
	for _, n := range nans {
		for _, x := range all {
			checkAbove(t, 1, 0, n, false)
			checkAbove(t, x, 1, n, false)
			checkAbove(t, n, 1, x, false)
			checkAbove(t, 1, n, x, false)
		}
	}
	for _, limit := range all {
		checkAbove(t, inf, inf, limit, false)
		checkAbove(t, -inf, inf, limit, false)
	}
}

func TestAboveIsTheOrderButForZeros(t *testing.T) {
	for _, part := range all {
		for _, whole := range all {
			for _, limit := range all {
				share := ratio.Share(part, whole)
				want := !math.IsNaN(limit) && !math.IsNaN(share) && place(share) > place(limit) && (share != 0 || limit != 0)
				checkAbove(t, part, whole, limit, want)
			}
		}
	}
}

// P3.3: Clamp

func TestClamp(t *testing.T) {
	checkClamp(t, 5, 1, 3, 3)
	checkClamp(t, 0, 1, 3, 1)
	checkClamp(t, 2, 1, 3, 2)
	checkClamp(t, 1, 1, 3, 1)
	checkClamp(t, 3, 1, 3, 3)
	checkClamp(t, 2, 2, 2, 2)
	checkClamp(t, inf, -5, 5, 5)
	checkClamp(t, -inf, -5, 5, -5)
	checkClamp(t, 7, -inf, inf, 7)
}

func TestClampWithLowAfterHigh(t *testing.T) {
	checkClamp(t, 0, 1, -5, 1)
	checkClamp(t, -9, 1, -5, 1)
	checkClamp(t, 1, 1, -5, -5)
	checkClamp(t, 9, 1, -5, -5)
}

func TestClampOfZeros(t *testing.T) {
	checkClamp(t, minus, 0, 3, 0)
	checkClamp(t, 0, minus, 3, 0)
	checkClamp(t, 0, -3, minus, minus)
	checkClamp(t, minus, -3, 0, minus)
	checkClamp(t, minus, minus, minus, minus)
	checkClamp(t, 0, 0, 0, 0)
}

func TestClampWithNaN(t *testing.T) {
	checkClamp(t, nan, 1, 3, 3)
	checkClamp(t, nan, 1, inf, inf)
	checkClamp(t, nan, 1, nan, nan)
	checkClamp(t, nan, nan, 3, 3)
	checkClamp(t, nan, nan, nan, nan)
	checkClamp(t, 2, nan, 3, nan)
	checkClamp(t, 9, nan, 3, nan)
	checkClamp(t, inf, nan, nan, nan)
	checkClamp(t, 9, 1, nan, 9)
	checkClamp(t, inf, 1, nan, inf)
	checkClamp(t, 0, 1, nan, 1)
}

func TestClampOfAllNumbers(t *testing.T) {
	for _, x := range all {
		for _, low := range all {
			for _, high := range all {
				want := x
				if place(x) < place(low) {
					want = low
				} else if place(x) > place(high) {
					want = high
				}
				checkClamp(t, x, low, high, want)
			}
		}
	}
}

// P3.3: Whole

func TestWhole(t *testing.T) {
	checkWhole(t, 0, 0, true)
	checkWhole(t, minus, 0, true)
	checkWhole(t, 1, 1, true)
	checkWhole(t, -1, -1, true)
	checkWhole(t, 1e15, 1000000000000000, true)
	checkWhole(t, 1<<62, 1<<62, true)
}

func TestWholeCutsTheFractionOff(t *testing.T) {
	checkWhole(t, 2.9, 2, true)
	checkWhole(t, -2.9, -2, true)
	checkWhole(t, 2.5, 2, true)
	checkWhole(t, 3.5, 3, true)
	checkWhole(t, -3.5, -3, true)
	checkWhole(t, 0.5, 0, true)
	checkWhole(t, -0.5, 0, true)
	checkWhole(t, math.Nextafter(1, 0), 0, true)
	checkWhole(t, math.Nextafter(-1, 0), 0, true)
	checkWhole(t, smallest, 0, true)
	checkWhole(t, -smallest, 0, true)
	checkWhole(t, 1<<52-0.5, 1<<52-1, true)
	checkWhole(t, -1<<52+0.5, -1<<52+1, true)
}

func TestWholeAtTheLimits(t *testing.T) {
	checkWhole(t, -top, math.MinInt, true)
	checkWhole(t, math.Nextafter(-top, 0), math.MinInt+1024, true)
	checkWhole(t, math.Nextafter(-top, -inf), 0, false)
	checkWhole(t, math.Nextafter(top, 0), math.MaxInt-1023, true)
	checkWhole(t, top, 0, false)
	checkWhole(t, math.Nextafter(top, inf), 0, false)
}

func TestWholeOfOtherNumbers(t *testing.T) {
	for _, x := range append(slices.Clone(nans), inf, -inf, 1<<64, -1<<64, 1e300, -1e300, greatest, -greatest) {
		checkWhole(t, x, 0, false)
	}
}

func TestWholeOfRandomNumbers(t *testing.T) {
	r := rand.New(rand.NewSource(6))
	for range 100000 {
		x := math.Ldexp(2*r.Float64()-1, r.Intn(70))
		n, _ := new(big.Float).SetFloat64(x).Int(nil) // cuts the fraction off
		if n.IsInt64() {
			checkWhole(t, x, int(n.Int64()), true)
		} else {
			checkWhole(t, x, 0, false)
		}
	}
}

// P3.4

func checkTotal(t *testing.T, a, b, c float64) {
	t.Helper()
	if ratio.Order(a, b) != -ratio.Order(b, a) {
		t.Errorf("Order of %v and %v is not antisymmetric", a, b)
	}
	if ratio.Order(a, b) <= 0 && ratio.Order(b, c) <= 0 {
		want := min(ratio.Order(a, b), ratio.Order(b, c)) // equal only if all three are
		if ratio.Order(a, c) != want {
			t.Errorf("Order of %v, %v and %v is not transitive", a, b, c)
		}
	}
}

func TestOrderIsTotal(t *testing.T) {
	for _, a := range all {
		for _, b := range all {
			for _, c := range all {
				checkTotal(t, a, b, c)
			}
		}
	}
	r := rand.New(rand.NewSource(7))
	for range 100000 {
		checkTotal(t, random(r), random(r), random(r))
	}
}
