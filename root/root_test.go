package root

import (
	"math"
	"math/big"
	"slices"
	"testing"

	"abacist/api"
	"abacist/gold"
)

const (
	prime = api.P
	top   = uint64(math.MaxUint64)
	most  = 1 << 20 // how many powers Powers tells at the most
)

// outside are exponents that no root has.
var outside = []int{-1, -2, -32, 33, 34, 63, 64, 65, 1 << 32, math.MaxInt, math.MinInt, math.MinInt + 1}

// someWords are edges of the field and of words, from P on too, and words that a fixed rule mixes.
func someWords() []uint64 {
	l := []uint64{
		0, 1, 2, 3, 7, 8, 1 << 16, 1<<32 - 1, 1 << 32, 1 << 48, 1 << 63,
		prime - 1<<48, prime - 2, prime - 1, prime, prime + 1, prime + 2, prime + 7, prime + 8, prime + 1<<24, top - 1, top,
	}
	w := uint64(1)
	for range 10 {
		w = w*6364136223846793005 + 1442695040888963407
		l = append(l, w^w>>29)
	}
	return l
}

func bigOf(a uint64) *big.Int {
	return new(big.Int).SetUint64(a)
}

// powerOf is a power by exact numbers.
func powerOf(a, n uint64) uint64 {
	return new(big.Int).Exp(bigOf(a), bigOf(n), bigOf(prime)).Uint64()
}

// rootOf is the root of order 2^k by exact numbers: 7 to the power of (P - 1) / 2^k.
func rootOf(k int) uint64 {
	return powerOf(7, (prime-1)/(1<<k))
}

// hasOrder tells whether 2^k is the least power of a that is 1: of one that is, all lesser ones that could be divide 2^(k - 1).
func hasOrder(a uint64, k int) bool {
	if k == 0 {
		return powerOf(a, 1) == 1
	}
	return powerOf(a, 1<<k) == 1 && powerOf(a, 1<<(k-1)) != 1
}

// goodRoot is the root that Root tells, of a k that has one.
func goodRoot(t *testing.T, k int) uint64 {
	t.Helper()
	w, e := Root(k)
	if e != api.OK {
		t.Fatalf("Root(%d): error %d", k, e)
	}
	return w
}

// P3.1: Root, Back.
func TestRootAndBackAsExactNumbers(t *testing.T) {
	for k := range 33 {
		want := rootOf(k)
		if got, e := Root(k); got != want || e != api.OK {
			t.Errorf("Root(%d) = %d, %d, want %d", k, got, e, want)
		}
		want = new(big.Int).ModInverse(bigOf(want), bigOf(prime)).Uint64()
		if got, e := Back(k); got != want || e != api.OK {
			t.Errorf("Back(%d) = %d, %d, want %d", k, got, e, want)
		}
	}
}

func TestRootAndBackAtEdges(t *testing.T) {
	for _, c := range []struct {
		k          int
		root, back uint64
	}{
		{0, 1, 1},
		{1, prime - 1, prime - 1},
		{2, 1 << 48, prime - 1<<48},
		{32, 1753635133440165772, powerOf(1753635133440165772, 1<<32-1)},
	} {
		if got, e := Root(c.k); got != c.root || e != api.OK {
			t.Errorf("Root(%d) = %d, %d, want %d", c.k, got, e, c.root)
		}
		if got, e := Back(c.k); got != c.back || e != api.OK {
			t.Errorf("Back(%d) = %d, %d, want %d", c.k, got, e, c.back)
		}
	}
}

// P3.1 and R3: of a k that is outside there is none, and 0 stands beside ErrArg.
func TestRootAndBackOutside(t *testing.T) {
	for _, k := range outside {
		if got, e := Root(k); got != 0 || e != api.ErrArg {
			t.Errorf("Root(%d) = %d, %d", k, got, e)
		}
		if got, e := Back(k); got != 0 || e != api.ErrArg {
			t.Errorf("Back(%d) = %d, %d", k, got, e)
		}
	}
}

// P3.1: Fits.
func TestFitsOfPowersOfTwo(t *testing.T) {
	for k := range 33 {
		if got, ok := Fits(1 << k); got != k || !ok {
			t.Errorf("Fits(2^%d) = %d, %v", k, got, ok)
		}
	}
}

// P3.1 and R3: of other numbers there is none, and 0 stands beside false.
func TestFitsOfOtherNumbers(t *testing.T) {
	l := []int{0, math.MaxInt, math.MinInt, math.MinInt + 1, 6, 10, 12, 1<<32 + 1<<31, 3 << 32}
	for k := 33; k < 63; k++ {
		l = append(l, 1<<k)
	}
	for k := range 63 {
		l = append(l, -1<<k, 1<<k|1<<62|1)
		if k > 1 {
			l = append(l, 1<<k-1, 1<<k+1)
		}
	}
	for _, n := range l {
		if got, ok := Fits(n); got != 0 || ok {
			t.Errorf("Fits(%d) = %d, %v", n, got, ok)
		}
	}
}

// P3.2: Powers.
func TestPowersAsExactNumbers(t *testing.T) {
	for _, w := range someWords() {
		for _, n := range []int{0, 1, 2, 3, 5, 64, 100} {
			want := make([]uint64, n)
			for i := range want {
				want[i] = powerOf(w, uint64(i))
			}
			if got, e := Powers(w, n); !slices.Equal(got, want) || e != api.OK {
				t.Fatalf("Powers(%d, %d) = %v, %d, want %v", w, n, got, e, want)
			}
		}
	}
}

func TestPowersAtEdges(t *testing.T) {
	for _, c := range []struct {
		w    uint64
		n    int
		want []uint64
	}{
		{5, 0, nil},
		{0, 0, nil},
		{top, 1, []uint64{1}},
		{0, 1, []uint64{1}},
		{0, 3, []uint64{1, 0, 0}},
		{prime, 3, []uint64{1, 0, 0}},
		{prime + 1, 3, []uint64{1, 1, 1}},
		{prime + 2, 4, []uint64{1, 2, 4, 8}},
		{top, 2, []uint64{1, 1<<32 - 2}},
		{1 << 48, 5, []uint64{1, 1 << 48, prime - 1, prime - 1<<48, 1}},
	} {
		if got, e := Powers(c.w, c.n); !slices.Equal(got, c.want) || e != api.OK {
			t.Errorf("Powers(%d, %d) = %v, %d, want %v", c.w, c.n, got, e, c.want)
		}
	}
}

func TestPowersOfTheGreatestNumber(t *testing.T) {
	for _, w := range []uint64{3, top} {
		l, e := Powers(w, most)
		if len(l) != most || e != api.OK {
			t.Fatalf("Powers(%d, 2^20): %d words, %d", w, len(l), e)
		}
		for _, i := range []int{0, 1, 2, 1<<10 + 1, most / 2, most - 2, most - 1} {
			if want := powerOf(w, uint64(i)); l[i] != want {
				t.Errorf("Powers(%d, 2^20) has %d at %d, want %d", w, l[i], i, want)
			}
		}
	}
}

// P3.2 and R3: of an n that is outside there are none.
func TestPowersOutside(t *testing.T) {
	for _, n := range []int{-1, -2, math.MinInt, most + 1, 1 << 21, 1 << 32, math.MaxInt} {
		for _, w := range []uint64{0, 1, 7, prime, top} {
			if got, e := Powers(w, n); len(got) != 0 || e != api.ErrArg {
				t.Errorf("Powers(%d, %d): %d words, %d", w, n, len(got), e)
			}
		}
	}
}

// R4: what is answered is new.
func TestPowersAreNew(t *testing.T) {
	first, _ := Powers(3, 5)
	clear(first[:cap(first)])
	if second, e := Powers(3, 5); !slices.Equal(second, []uint64{1, 3, 9, 27, 81}) || e != api.OK {
		t.Errorf("Powers(3, 5) became %v, %d", second, e)
	}
}

// P3.3: OrderOf, of odd powers of each root, which have its order.
func TestOrderOfOddPowers(t *testing.T) {
	for k := range 33 {
		for _, n := range []uint64{1, 3, 5, 1<<k - 1, 12345, 1<<31 + 1, top} {
			a := powerOf(rootOf(k), n|1)
			if !hasOrder(a, k) {
				t.Fatalf("%d hasn't the order 2^%d", a, k)
			}
			if got, ok := OrderOf(a); got != k || !ok {
				t.Errorf("OrderOf(%d) = %d, %v, want %d", a, got, ok, k)
			}
		}
	}
}

func TestOrderOfAtEdges(t *testing.T) {
	for _, c := range []struct {
		a uint64
		k int
	}{
		{1, 0},
		{prime + 1, 0},
		{prime - 1, 1},
		{1 << 48, 2},
		{prime - 1<<48, 2},
		{1 << 24, 3},
		{prime + 1<<24, 3},
		{1 << 12, 4},
		{prime + 1<<12, 4},
		{8, 6},
		{prime + 8, 6},
		{1753635133440165772, 32},
	} {
		if got, ok := OrderOf(c.a); got != c.k || !ok {
			t.Errorf("OrderOf(%d) = %d, %v, want %d", c.a, got, ok, c.k)
		}
	}
}

// P3.3 and R3: 0 has no order, other words another one, and 0 stands beside false.
func TestOrderOfOtherWords(t *testing.T) {
	for _, a := range []uint64{
		0, prime, 2, 3, 5, 7, prime + 2, prime + 7, top, prime - 2, prime - 7,
		1<<32 - 1, // the order 3
		1 << 32,   // the order 6
		1 << 16,   // the order 12
		prime + 1<<16,
		powerOf(7, 1<<32), // an odd order: 2^32 - 1
		powerOf(7, 1<<31), // twice that
		powerOf(7, (1<<32-1)/3),
	} {
		if got, ok := OrderOf(a); got != 0 || ok {
			t.Errorf("OrderOf(%d) = %d, %v", a, got, ok)
		}
	}
}

func TestOrderOfAsExactNumbers(t *testing.T) {
	for _, a := range someWords() {
		k := slices.IndexFunc(ks(), func(k int) bool { return hasOrder(a, k) })
		want := max(k, 0)
		if got, ok := OrderOf(a); got != want || ok != (k >= 0) {
			t.Errorf("OrderOf(%d) = %d, %v, want %d, %v", a, got, ok, want, k >= 0)
		}
	}
}

// ks are the exponents that roots have.
func ks() []int {
	l := make([]int, 33)
	for k := range l {
		l[k] = k
	}
	return l
}

// P3.3: Log, of all powers of the lower roots.
func TestLogOfAllPowers(t *testing.T) {
	for k := range 11 {
		for n := range 1 << k {
			a := powerOf(rootOf(k), uint64(n))
			if got, ok := Log(a, k); got != n || !ok {
				t.Fatalf("Log(%d, %d) = %d, %v, want %d", a, k, got, ok, n)
			}
		}
	}
}

// P3.3: Log, of some powers of each root.
func TestLogOfSomePowers(t *testing.T) {
	for k := range 33 {
		for _, n := range []uint64{0, 1, 2, 3, 1 << k >> 1, 1<<k - 1, 1<<k - 2, 0x12345678, 0xaaaaaaaa, 0x55555555, 0xfedcba98} {
			n %= 1 << k
			a := powerOf(rootOf(k), n)
			if got, ok := Log(a, k); got != int(n) || !ok {
				t.Errorf("Log(%d, %d) = %d, %v, want %d", a, k, got, ok, n)
			}
		}
	}
}

func TestLogAtEdges(t *testing.T) {
	for _, c := range []struct {
		a    uint64
		k, n int
	}{
		{1, 0, 0},
		{prime + 1, 0, 0},
		{1, 1, 0},
		{1, 32, 0},
		{prime + 1, 32, 0},
		{prime - 1, 1, 1},
		{prime - 1, 5, 16},
		{prime - 1, 32, 1 << 31},
		{1 << 48, 2, 1},
		{prime - 1<<48, 2, 3},
		{1753635133440165772, 32, 1},
		{powerOf(1753635133440165772, 1<<32-1), 32, 1<<32 - 1},
	} {
		if got, ok := Log(c.a, c.k); got != c.n || !ok {
			t.Errorf("Log(%d, %d) = %d, %v, want %d", c.a, c.k, got, ok, c.n)
		}
	}
}

// P3.3: words from P on are taken for what they leave: powers of 8 have orders up to 2^6.
func TestLogOfWordsFromP(t *testing.T) {
	for i := range 10 {
		a := uint64(1) << (3 * i)
		for k := 6; k <= 32; k++ {
			n, ok := Log(a, k)
			if !ok || powerOf(rootOf(k), uint64(n)) != a {
				t.Fatalf("Log(%d, %d) = %d, %v", a, k, n, ok)
			}
			if got, ok := Log(prime+a, k); got != n || !ok {
				t.Errorf("Log(P + %d, %d) = %d, %v, want %d", a, k, got, ok, n)
			}
		}
	}
}

// P3.3 and R3: of a word that is no power of the root there is none, and 0 stands beside false.
func TestLogOfOtherWords(t *testing.T) {
	for k := range 33 {
		l := []uint64{0, prime, 2, 3, 7, prime + 2, prime + 7, top, 1 << 32, 1<<32 - 1, 1 << 16, powerOf(7, 1<<32)}
		for greater := k + 1; greater <= 32; greater++ {
			l = append(l, rootOf(greater), powerOf(rootOf(greater), 5))
		}
		for _, a := range l {
			if got, ok := Log(a, k); got != 0 || ok {
				t.Errorf("Log(%d, %d) = %d, %v", a, k, got, ok)
			}
		}
	}
}

// P3.3 and R3: of a k that is outside there is none.
func TestLogOutside(t *testing.T) {
	for _, k := range outside {
		for _, a := range []uint64{0, 1, prime - 1, prime, prime + 1, 7, top} {
			if got, ok := Log(a, k); got != 0 || ok {
				t.Errorf("Log(%d, %d) = %d, %v", a, k, got, ok)
			}
		}
	}
}

// P3.4: the order of a root, and its square.
func TestRootsOrderAndSquare(t *testing.T) {
	for k := range 33 {
		w := goodRoot(t, k)
		if !hasOrder(w, k) {
			t.Errorf("Root(%d) = %d hasn't its order", k, w)
		}
		if got, ok := OrderOf(w); got != k || !ok {
			t.Errorf("OrderOf(Root(%d)) = %d, %v", k, got, ok)
		}
		if k > 0 && gold.Mul(w, w) != goodRoot(t, k-1) {
			t.Errorf("Root(%d) = %d: its square is another one", k, w)
		}
	}
}

// P3.4: the powers of a root are unlike, and their sum is 0, as far as Powers goes.
func TestRootsPowersAndSum(t *testing.T) {
	for k := range 21 {
		l, e := Powers(goodRoot(t, k), 1<<k)
		if len(l) != 1<<k || e != api.OK {
			t.Fatalf("Powers(Root(%d), 2^%d): %d words, %d", k, k, len(l), e)
		}
		want := uint64(0)
		if k == 0 {
			want = 1
		}
		if got := gold.Sum(l...); got != want {
			t.Errorf("Powers(Root(%d), 2^%d) have the sum %d", k, k, got)
		}
		slices.Sort(l)
		if len(slices.Compact(l)) != 1<<k {
			t.Errorf("Powers(Root(%d), 2^%d) are alike", k, k)
		}
	}
}

// P3.4: the sum of all 2^k powers is the product of 1 + w, 1 + w^2, 1 + w^4 and so on; so it is told beyond what Powers tells.
func TestRootsSumByProducts(t *testing.T) {
	for k := 1; k <= 32; k++ {
		w, sum := goodRoot(t, k), uint64(1)
		for range k {
			sum = gold.Mul(sum, gold.Add(1, w))
			w = gold.Mul(w, w)
		}
		if sum != 0 || w != 1 {
			t.Errorf("the powers of Root(%d) have the sum %d", k, sum)
		}
	}
}

// P1: calls end and none panics, whatever numbers and words come together.
func TestAnyArgument(t *testing.T) {
	numbers := append([]int{0, 1, 2, 31, 32, most, most + 1}, outside...)
	for _, n := range numbers {
		Root(n)
		Back(n)
		Fits(n)
		for _, w := range someWords() {
			OrderOf(w)
			Log(w, n)
			if n < most {
				Powers(w, n)
			}
		}
	}
}
