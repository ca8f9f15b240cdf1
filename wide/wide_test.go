package wide

import (
	"math"
	"math/big"
	"slices"
	"testing"

	"abacist/api"
)

const top = uint64(math.MaxUint64)

var greatest = api.Wide{Hi: top, Lo: top}

// someWords are edges of words, and words that a fixed rule mixes.
func someWords() []uint64 {
	l := []uint64{0, 1, 2, 3, 9, 10, 1<<32 - 1, 1 << 32, 1<<63 - 1, 1 << 63, 1<<63 + 1, api.P - 1, api.P, top - 1, top}
	w := uint64(1)
	for range 5 {
		w = w*6364136223846793005 + 1442695040888963407
		l = append(l, w)
	}
	return l
}

// someWides have each of someWords as either half.
func someWides() []api.Wide {
	var l []api.Wide
	for _, hi := range someWords() {
		for _, lo := range someWords() {
			l = append(l, api.Wide{Hi: hi, Lo: lo})
		}
	}
	return l
}

func bigOf(a api.Wide) *big.Int {
	n := new(big.Int).SetUint64(a.Hi)
	n.Lsh(n, 64)
	return n.Or(n, new(big.Int).SetUint64(a.Lo))
}

// cut is what n leaves modulo 2^128 (of n below 0 too).
func cut(n *big.Int) api.Wide {
	mod := new(big.Int).Lsh(big.NewInt(1), 128)
	n = new(big.Int).Mod(n, mod)
	low := new(big.Int).SetUint64(top)
	return api.Wide{Hi: new(big.Int).Rsh(n, 64).Uint64(), Lo: new(big.Int).And(n, low).Uint64()}
}

// P1.1: Mul.
func TestMulIsTheProduct(t *testing.T) {
	for _, a := range someWords() {
		for _, b := range someWords() {
			want := cut(new(big.Int).Mul(bigOf(api.Wide{Lo: a}), bigOf(api.Wide{Lo: b})))
			if got := Mul(a, b); got != want {
				t.Fatalf("Mul(%d, %d) = %v, want %v", a, b, got, want)
			}
		}
	}
}

func TestMulAtEdges(t *testing.T) {
	for _, c := range []struct {
		a, b uint64
		want api.Wide
	}{
		{1 << 63, 4, api.Wide{Hi: 2}},
		{0, top, api.Wide{}},
		{1, top, api.Wide{Lo: top}},
		{top, top, api.Wide{Hi: top - 1, Lo: 1}},
	} {
		if got := Mul(c.a, c.b); got != c.want {
			t.Errorf("Mul(%d, %d) = %v, want %v", c.a, c.b, got, c.want)
		}
	}
}

// P1.1: Add, Sub, Compare.
func TestAddSubCompareAsExactNumbers(t *testing.T) {
	for _, a := range someWides() {
		x := bigOf(a)
		for _, b := range someWides() {
			y := bigOf(b)
			sum := new(big.Int).Add(x, y)
			carry := uint64(0)
			if sum.BitLen() > 128 {
				carry = 1
			}
			if s, c := Add(a, b); s != cut(sum) || c != carry {
				t.Fatalf("Add(%v, %v) = %v, %d, want %v, %d", a, b, s, c, cut(sum), carry)
			}
			diff := new(big.Int).Sub(x, y)
			borrow := uint64(0)
			if diff.Sign() < 0 {
				borrow = 1
			}
			if d, c := Sub(a, b); d != cut(diff) || c != borrow {
				t.Fatalf("Sub(%v, %v) = %v, %d, want %v, %d", a, b, d, c, cut(diff), borrow)
			}
			if got := Compare(a, b); got != diff.Sign() {
				t.Fatalf("Compare(%v, %v) = %d, want %d", a, b, got, diff.Sign())
			}
		}
	}
}

func TestAddAtEdges(t *testing.T) {
	one := api.Wide{Lo: 1}
	for _, c := range []struct {
		a, b, want api.Wide
		carry      uint64
	}{
		{api.Wide{}, api.Wide{}, api.Wide{}, 0},
		{api.Wide{Lo: top}, one, api.Wide{Hi: 1}, 0},
		{greatest, api.Wide{}, greatest, 0},
		{greatest, one, api.Wide{}, 1},
		{greatest, greatest, api.Wide{Hi: top, Lo: top - 1}, 1},
		{api.Wide{Hi: top}, api.Wide{Hi: 1}, api.Wide{}, 1},
		{api.Wide{Hi: top, Lo: top}, api.Wide{Hi: 0, Lo: 2}, api.Wide{Lo: 1}, 1},
	} {
		if s, carry := Add(c.a, c.b); s != c.want || carry != c.carry {
			t.Errorf("Add(%v, %v) = %v, %d, want %v, %d", c.a, c.b, s, carry, c.want, c.carry)
		}
	}
}

func TestSubAtEdges(t *testing.T) {
	one := api.Wide{Lo: 1}
	for _, c := range []struct {
		a, b, want api.Wide
		borrow     uint64
	}{
		{api.Wide{}, api.Wide{}, api.Wide{}, 0},
		{api.Wide{}, one, greatest, 1},
		{api.Wide{}, greatest, one, 1},
		{greatest, greatest, api.Wide{}, 0},
		{api.Wide{Hi: 1}, one, api.Wide{Lo: top}, 0},
		{api.Wide{Hi: 1, Lo: 0}, api.Wide{Hi: 1, Lo: 1}, greatest, 1},
		{api.Wide{Hi: 1}, api.Wide{Hi: 2}, api.Wide{Hi: top}, 1},
	} {
		if d, borrow := Sub(c.a, c.b); d != c.want || borrow != c.borrow {
			t.Errorf("Sub(%v, %v) = %v, %d, want %v, %d", c.a, c.b, d, borrow, c.want, c.borrow)
		}
	}
}

func TestCompareAtEdges(t *testing.T) {
	for _, c := range []struct {
		a, b api.Wide
		want int
	}{
		{api.Wide{}, api.Wide{}, 0},
		{greatest, greatest, 0},
		{api.Wide{}, greatest, -1},
		{greatest, api.Wide{}, 1},
		{api.Wide{Hi: 1}, api.Wide{Lo: top}, 1},
		{api.Wide{Lo: top}, api.Wide{Hi: 1}, -1},
		{api.Wide{Hi: 7, Lo: 1}, api.Wide{Hi: 7, Lo: 2}, -1},
		{api.Wide{Hi: 7, Lo: 2}, api.Wide{Hi: 7, Lo: 1}, 1},
	} {
		if got := Compare(c.a, c.b); got != c.want {
			t.Errorf("Compare(%v, %v) = %d, want %d", c.a, c.b, got, c.want)
		}
	}
}

// P1.1: Sum.
func TestSumIsTheSumOfAll(t *testing.T) {
	total := new(big.Int)
	var l []api.Wide
	for _, a := range someWides() {
		l = append(l, a)
		total.Add(total, bigOf(a))
		if got := Sum(l...); got != cut(total) {
			t.Fatalf("Sum of %d = %v, want %v", len(l), got, cut(total))
		}
	}
}

func TestSumAtEdges(t *testing.T) {
	if got := Sum(); got != (api.Wide{}) {
		t.Errorf("Sum() = %v", got)
	}
	if got := Sum([]api.Wide{}...); got != (api.Wide{}) {
		t.Errorf("Sum of a list without elements = %v", got)
	}
	if got := Sum(greatest); got != greatest {
		t.Errorf("Sum(2^128 - 1) = %v", got)
	}
	if got := Sum(greatest, greatest, api.Wide{Lo: 3}); got != (api.Wide{Lo: 1}) {
		t.Errorf("Sum beyond 2^128 = %v", got)
	}
}

// R4: what is handed in stays, and so does what lies behind its length.
func TestSumLeavesItsList(t *testing.T) {
	memory := []api.Wide{{Hi: 1, Lo: top}, {Lo: 1}, {Hi: 5}, {Lo: 9}}
	before := slices.Clone(memory)
	if got := Sum(memory[:2]...); got != (api.Wide{Hi: 2}) {
		t.Errorf("Sum reads more or less than its list: %v", got)
	}
	if !slices.Equal(memory, before) {
		t.Errorf("Sum changed its list: %v", memory)
	}
}

// P1.2: Shl, Shr.
func TestShiftsAsExactNumbers(t *testing.T) {
	for _, a := range someWides() {
		x := bigOf(a)
		for n := range 300 {
			if got, want := Shl(a, n), cut(new(big.Int).Lsh(x, uint(n))); got != want {
				t.Fatalf("Shl(%v, %d) = %v, want %v", a, n, got, want)
			}
			if got, want := Shr(a, n), cut(new(big.Int).Rsh(x, uint(n))); got != want {
				t.Fatalf("Shr(%v, %d) = %v, want %v", a, n, got, want)
			}
		}
	}
}

func TestShiftsAtEdges(t *testing.T) {
	a := api.Wide{Hi: 1<<63 | 5, Lo: 1<<63 | 3}
	for _, c := range []struct {
		n        int
		shl, shr api.Wide
	}{
		{math.MinInt, a, a},
		{-128, a, a},
		{-1, a, a},
		{0, a, a},
		{1, api.Wide{Hi: 11, Lo: 6}, api.Wide{Hi: 1<<62 | 2, Lo: 1<<63 | 1<<62 | 1}},
		{63, api.Wide{Hi: 3<<62 | 1, Lo: 1 << 63}, api.Wide{Hi: 1, Lo: 11}},
		{64, api.Wide{Hi: a.Lo}, api.Wide{Lo: a.Hi}},
		{65, api.Wide{Hi: 6}, api.Wide{Lo: 1<<62 | 2}},
		{127, api.Wide{Hi: 1 << 63}, api.Wide{Lo: 1}},
		{128, api.Wide{}, api.Wide{}},
		{129, api.Wide{}, api.Wide{}},
		{192, api.Wide{}, api.Wide{}},
		{256, api.Wide{}, api.Wide{}},
		{1 << 32, api.Wide{}, api.Wide{}},
		{math.MaxInt, api.Wide{}, api.Wide{}},
	} {
		if got := Shl(a, c.n); got != c.shl {
			t.Errorf("Shl(%v, %d) = %v, want %v", a, c.n, got, c.shl)
		}
		if got := Shr(a, c.n); got != c.shr {
			t.Errorf("Shr(%v, %d) = %v, want %v", a, c.n, got, c.shr)
		}
	}
}

// P1.2: Len.
func TestLenIsHowManyBits(t *testing.T) {
	if got := Len(api.Wide{}); got != 0 {
		t.Errorf("Len(0) = %d", got)
	}
	one := api.Wide{Lo: 1}
	for n := range 128 {
		power := Shl(one, n)
		if got := Len(power); got != n+1 {
			t.Errorf("Len(2^%d) = %d", n, got)
		}
		below, _ := Sub(power, one)
		if got := Len(below); got != n {
			t.Errorf("Len(2^%d - 1) = %d", n, got)
		}
	}
	for _, a := range someWides() {
		if got, want := Len(a), bigOf(a).BitLen(); got != want {
			t.Fatalf("Len(%v) = %d, want %d", a, got, want)
		}
	}
}

// P1.3: Rem.
func TestRemAsExactNumbers(t *testing.T) {
	for _, a := range someWides() {
		for _, m := range someWords() {
			if m == 0 {
				continue
			}
			want, rest := new(big.Int).DivMod(bigOf(a), bigOf(api.Wide{Lo: m}), new(big.Int))
			if q, r, e := Rem(a, m); q != cut(want) || r != rest.Uint64() || e != api.OK {
				t.Fatalf("Rem(%v, %d) = %v, %d, %d, want %v, %v", a, m, q, r, e, want, rest)
			}
		}
	}
}

func TestRemAtEdges(t *testing.T) {
	for _, c := range []struct {
		a    api.Wide
		m    uint64
		q    api.Wide
		rest uint64
	}{
		{api.Wide{}, 1, api.Wide{}, 0},
		{api.Wide{}, top, api.Wide{}, 0},
		{greatest, 1, greatest, 0},
		{greatest, 2, api.Wide{Hi: top >> 1, Lo: top}, 1},
		{greatest, top, api.Wide{Hi: 1, Lo: 1}, 0},
		{api.Wide{Hi: 1}, top, api.Wide{Lo: 1}, 1},
		{api.Wide{Lo: 6}, 7, api.Wide{}, 6},
		{api.Wide{Lo: 7}, 7, api.Wide{Lo: 1}, 0},
	} {
		if q, r, e := Rem(c.a, c.m); q != c.q || r != c.rest || e != api.OK {
			t.Errorf("Rem(%v, %d) = %v, %d, %d, want %v, %d", c.a, c.m, q, r, e, c.q, c.rest)
		}
	}
}

// P1.3 and R3: beside ErrZero stand zero values.
func TestRemByZero(t *testing.T) {
	for _, a := range someWides() {
		if q, r, e := Rem(a, 0); q != (api.Wide{}) || r != 0 || e != api.ErrZero {
			t.Fatalf("Rem(%v, 0) = %v, %d, %d", a, q, r, e)
		}
	}
}

// P1.3: Text.
func TestTextIsDecimalDigits(t *testing.T) {
	for _, a := range someWides() {
		if got, want := Text(a), bigOf(a).String(); got != want {
			t.Fatalf("Text(%v) = %q, want %q", a, got, want)
		}
	}
}

func TestTextAtEdges(t *testing.T) {
	for _, c := range []struct {
		a    api.Wide
		want string
	}{
		{api.Wide{}, "0"},
		{api.Wide{Lo: 9}, "9"},
		{api.Wide{Lo: 10}, "10"},
		{api.Wide{Lo: 1000}, "1000"},
		{api.Wide{Lo: top}, "18446744073709551615"},
		{api.Wide{Hi: 1}, "18446744073709551616"},
		{Mul(1e19, 1e19), "100000000000000000000000000000000000000"},
		{greatest, "340282366920938463463374607431768211455"},
	} {
		if got := Text(c.a); got != c.want {
			t.Errorf("Text(%v) = %q, want %q", c.a, got, c.want)
		}
	}
}

// times is a times m, by the package's own calls; over is 1 if it is beyond 128 bits.
func times(a api.Wide, m uint64) (p api.Wide, over uint64) {
	high := Mul(a.Hi, m)
	p, over = Add(Mul(a.Lo, m), api.Wide{Hi: high.Lo})
	if high.Hi != 0 {
		over = 1
	}
	return p, over
}

// P1.4: the quotient times m, and the rest, is a; the rest is below m.
func TestRemGoesBack(t *testing.T) {
	for _, a := range someWides() {
		for _, m := range someWords() {
			if m == 0 {
				continue
			}
			q, r, e := Rem(a, m)
			if e != api.OK || r >= m {
				t.Fatalf("Rem(%v, %d): the rest is %d, the error %d", a, m, r, e)
			}
			p, over := times(q, m)
			back, carry := Add(p, api.Wide{Lo: r})
			if back != a || over != 0 || carry != 0 {
				t.Fatalf("Rem(%v, %d) = %v, %d, which goes back to %v", a, m, q, r, back)
			}
		}
	}
}
