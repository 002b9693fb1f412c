package serial_test

import (
	"math"
	"math/rand"
	"testing"

	"beadroll/api"
	"beadroll/serial"
)

const top = math.MaxUint32

// bases are the serials that the tests start from: both sides of 0 and of 2^31, and some ordinary ones.
var bases = []uint32{0, 1, 2, 7, 1000000, 1<<31 - 2, 1<<31 - 1, 1 << 31, 1<<31 + 1, 1<<31 + 2, 3000000000, top - 7, top - 1, top}

// distances are the numbers of steps at which the order changes, and some between.
var distances = []uint32{0, 1, 2, 3, 255, 65536, 1<<31 - 2, 1<<31 - 1, 1 << 31, 1<<31 + 1, 1<<31 + 2, top - 1, top}

// plus adds with all 64 bits and divides, so that it does not lean on the wrapping of a type.
func plus(a uint32, n int64) uint32 {
	const m = 1 << 32
	return uint32(((int64(a)+n)%m + m) % m)
}

// order is the chapter's definition, for serials of which b is n steps from a.
func order(n uint32) (int, bool) {
	switch {
	case n == 0:
		return 0, true
	case n <= 2147483647:
		return -1, true
	case n == 2147483648:
		return 0, false
	}
	return 1, true
}

func checkOrder(t *testing.T, a, b uint32, want int, wantOk bool) {
	t.Helper()
	if c, ok := serial.Compare(a, b); c != want || ok != wantOk {
		t.Errorf("Compare(%d, %d) = %d, %v; want %d, %v", a, b, c, ok, want, wantOk)
	}
	if got := serial.Ahead(a, b); got != (want == -1) {
		t.Errorf("Ahead(%d, %d) = %v", a, b, got)
	}
}

func checkAdd(t *testing.T, a uint32, n int, want uint32, wantE api.Errno) {
	t.Helper()
	if s, e := serial.Add(a, n); s != want || e != wantE {
		t.Errorf("Add(%d, %d) = %d, %v; want %d, %v", a, n, s, e, want, wantE)
	}
}

func checkNext(t *testing.T, a, want uint32) {
	t.Helper()
	if got := serial.Next(a); got != want {
		t.Errorf("Next(%d) = %d; want %d", a, got, want)
	}
}

func checkBetween(t *testing.T, a, b, c uint32, want bool) {
	t.Helper()
	if got := serial.Between(a, b, c); got != want {
		t.Errorf("Between(%d, %d, %d) = %v", a, b, c, got)
	}
}

// P2.1: Ahead and Compare

func TestOrderOfEqualSerials(t *testing.T) {
	for _, a := range bases {
		checkOrder(t, a, a, 0, true)
	}
}

func TestOrderOfSerialsThatAreApart(t *testing.T) {
	checkOrder(t, 0, 2147483648, 0, false)
	checkOrder(t, 2147483648, 0, 0, false)
	checkOrder(t, 1, 2147483649, 0, false)
	checkOrder(t, 2147483647, 4294967295, 0, false)
	checkOrder(t, 4294967295, 2147483647, 0, false)
	for _, a := range bases {
		checkOrder(t, a, plus(a, 1<<31), 0, false)
	}
}

func TestOrderBesideApart(t *testing.T) {
	checkOrder(t, 0, 2147483647, -1, true)
	checkOrder(t, 2147483647, 0, 1, true)
	checkOrder(t, 0, 2147483649, 1, true)
	checkOrder(t, 2147483649, 0, -1, true)
	for _, a := range bases {
		checkOrder(t, a, plus(a, 1<<31-1), -1, true)
		checkOrder(t, a, plus(a, 1<<31+1), 1, true)
	}
}

func TestOrderAcrossTheWrap(t *testing.T) {
	checkOrder(t, 4294967295, 0, -1, true)
	checkOrder(t, 0, 4294967295, 1, true)
	checkOrder(t, 4294967290, 5, -1, true)
	checkOrder(t, 5, 4294967290, 1, true)
	// Without a wrap the greater number is ahead.
	checkOrder(t, 7, 8, -1, true)
	checkOrder(t, 8, 7, 1, true)
	checkOrder(t, 2147483647, 2147483648, -1, true)
	checkOrder(t, 2147483648, 2147483647, 1, true)
}

func TestOrderOfAllDistances(t *testing.T) {
	for _, a := range bases {
		for _, n := range distances {
			want, ok := order(n)
			checkOrder(t, a, plus(a, int64(n)), want, ok)
		}
	}
}

// P2.1: Add

func TestAdd(t *testing.T) {
	checkAdd(t, 5, 3, 8, api.OK)
	checkAdd(t, 0, 2147483647, 2147483647, api.OK)
	checkAdd(t, 2147483648, 2147483647, 4294967295, api.OK)
	checkAdd(t, 4294967295, 0, 4294967295, api.OK)
	checkAdd(t, 4294967295, 1, 0, api.OK)
	checkAdd(t, 4294967295, 2, 1, api.OK)
	checkAdd(t, 4294967295, 2147483647, 2147483646, api.OK)
	for _, a := range bases {
		checkAdd(t, a, 0, a, api.OK)
		for _, n := range []int{1, 2, 65536, 1<<31 - 2, 1<<31 - 1} {
			checkAdd(t, a, n, plus(a, int64(n)), api.OK)
		}
	}
}

func TestAddOfOtherNumbers(t *testing.T) {
	others := []int{-1, -2, -1 << 31, -1<<31 - 1, -1 << 32, 1 << 31, 1<<31 + 1, 1<<32 - 1, 1 << 32, 1<<32 + 1, math.MinInt, math.MaxInt}
	for _, a := range bases {
		for _, n := range others {
			checkAdd(t, a, n, 0, api.ErrArg)
		}
	}
}

// P2.1: Next

func TestNext(t *testing.T) {
	checkNext(t, 0, 1)
	checkNext(t, 1, 2)
	checkNext(t, 5, 6)
	checkNext(t, 2147483647, 2147483648)
	checkNext(t, 2147483648, 2147483649)
	checkNext(t, 4294967294, 4294967295)
	checkNext(t, 4294967295, 1)
}

// P2.2

func TestBetweenWithoutWrap(t *testing.T) {
	checkBetween(t, 3, 5, 9, true)
	checkBetween(t, 3, 9, 9, true)
	checkBetween(t, 3, 10, 9, false)
	checkBetween(t, 3, 2, 9, false)
	checkBetween(t, 3, 3, 9, true)
	checkBetween(t, 0, 4294967294, 4294967295, true)
	checkBetween(t, 0, 4294967295, 4294967294, false)
}

func TestBetweenAcrossTheWrap(t *testing.T) {
	checkBetween(t, 4294967290, 4294967295, 3, true)
	checkBetween(t, 4294967290, 0, 3, true)
	checkBetween(t, 4294967290, 3, 3, true)
	checkBetween(t, 4294967290, 4, 3, false)
	checkBetween(t, 4294967290, 4294967289, 3, false)
	checkBetween(t, 4294967295, 0, 0, true)
	// c just behind a is the last serial that is reached.
	checkBetween(t, 10, 9, 9, true)
	checkBetween(t, 10, 4294967295, 9, true)
	checkBetween(t, 10, 9, 8, false)
}

func TestBetweenOfEqualSerials(t *testing.T) {
	for _, a := range bases {
		checkBetween(t, a, a, a, true)
		for _, n := range distances[1:] {
			b := plus(a, int64(n))
			checkBetween(t, a, a, b, true)
			checkBetween(t, a, b, b, true)
			checkBetween(t, a, b, a, false)
		}
	}
}

func TestBetweenOfDistances(t *testing.T) {
	for _, a := range bases {
		for _, n := range distances {
			for _, m := range distances {
				checkBetween(t, a, plus(a, int64(n)), plus(a, int64(m)), n <= m)
			}
		}
	}
}

// countsTo is the chapter's sentence itself, for serials that are near.
func countsTo(a, b, c uint32) bool {
	for s := a; ; s = plus(s, 1) {
		if s == b {
			return true
		}
		if s == c {
			return false
		}
	}
}

func TestBetweenByCounting(t *testing.T) {
	for _, start := range []uint32{0, 100, 1<<31 - 4, top - 3} {
		for i := range int64(8) {
			for j := i; j < 8; j++ {
				for k := i; k < 8; k++ {
					a, b, c := plus(start, i), plus(start, j), plus(start, k)
					checkBetween(t, a, b, c, countsTo(a, b, c))
				}
			}
		}
	}
}

// P2.3

func checkConsequences(t *testing.T, a, b uint32) {
	t.Helper()
	apart := a-b == 1<<31
	ahead, back := serial.Ahead(a, b), serial.Ahead(b, a)
	if a == b || apart {
		if ahead || back {
			t.Errorf("one of %d and %d, which are equal or apart, is ahead", a, b)
		}
	} else if ahead == back {
		t.Errorf("not exactly one of %d and %d is ahead of the other", a, b)
	}
	n := serial.Next(a)
	if n == 0 || !serial.Ahead(a, n) {
		t.Errorf("Next(%d) = %d is 0 or not ahead", a, n)
	}
}

func TestExactlyOneIsAheadAndSoIsNext(t *testing.T) {
	for _, a := range bases {
		for _, n := range distances {
			checkConsequences(t, a, plus(a, int64(n)))
		}
	}
	r := rand.New(rand.NewSource(2))
	for range 20000 {
		checkConsequences(t, r.Uint32(), r.Uint32())
	}
}

func TestOrderOfRandomSerials(t *testing.T) {
	r := rand.New(rand.NewSource(1))
	for range 20000 {
		a, n, m := r.Uint32(), r.Uint32(), r.Uint32()
		want, ok := order(n)
		b := plus(a, int64(n))
		checkOrder(t, a, b, want, ok)
		checkBetween(t, a, b, plus(a, int64(m)), n <= m)
		checkAdd(t, a, int(n>>1), plus(a, int64(n>>1)), api.OK)
	}
}
