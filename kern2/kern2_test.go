package kern2

import (
	"math"
	"math/big"
	"slices"
	"testing"

	"abacist/api"
	"abacist/gold"
	"abacist/poly"
	"abacist/twid"
)

const (
	prime = api.P
	top   = uint64(math.MaxUint64)
	most  = 1 << 20 // how many words a kernel's row has at the most
)

// badExponents are those that no kernel is of; some of them leave one, if but their lowest bits are looked at.
var badExponents = []int{-1, -2, -20, -21, -32, -64, 21, 22, 31, 32, 33, 63, 64, 65, 84, 256, 1 << 32, 1<<32 + 1, 1 << 62, math.MaxInt, math.MinInt, math.MinInt + 1}

// badDirections are numbers that are no direction; some of them leave one, if but their lowest bits are looked at.
var badDirections = []int{-1, -2, 2, 3, 4, 256, 257, 1 << 32, 1<<32 + 1, 1 << 62, math.MaxInt, math.MinInt, math.MinInt + 1}

// someWords are edges of the field and of words, from P on too.
var someWords = []uint64{0, 1, 2, 3, 7, 1<<32 - 1, 1 << 32, 1 << 48, 1 << 63, prime - 2, prime - 1, prime, prime + 1, prime + 2, top - 1, top}

var directions = []int{api.Forward, api.Inverse}

// mixed are n words that a fixed rule mixes, some of them from P on.
func mixed(n int, seed uint64) []uint64 {
	l := make([]uint64, n)
	w := seed
	for i := range l {
		w = w*6364136223846793005 + 1442695040888963407
		l[i] = w ^ w>>29
		if i%5 == 3 {
			l[i] = prime + w>>33
		}
	}
	return l
}

// alike are n words that are the same.
func alike(n int, w uint64) []uint64 {
	return slices.Repeat([]uint64{w}, n)
}

// pulse is n words of which all are 0 but the one at a place.
func pulse(n, at int, w uint64) []uint64 {
	l := make([]uint64, n)
	l[at] = w
	return l
}

// someRows are rows of n words.
func someRows(n int) [][]uint64 {
	return [][]uint64{
		make([]uint64, n), alike(n, 1), alike(n, prime-1), alike(n, prime), alike(n, top),
		pulse(n, 0, 1), pulse(n, n-1, 1), pulse(n, n/2, prime-1), pulse(n, n-1, top),
		mixed(n, 1), mixed(n, 2),
	}
}

// canonical is what each word of a row leaves.
func canonical(l []uint64) []uint64 {
	out := slices.Clone(l)
	for i := range out {
		out[i] %= prime
	}
	return out
}

func bigOf(a uint64) *big.Int {
	return new(big.Int).SetUint64(a)
}

func left(n *big.Int) uint64 {
	return new(big.Int).Mod(n, bigOf(prime)).Uint64()
}

func inverseOf(a uint64) uint64 {
	return new(big.Int).ModInverse(bigOf(a), bigOf(prime)).Uint64()
}

func timesOf(a, b uint64) uint64 {
	return left(new(big.Int).Mul(bigOf(a), bigOf(b)))
}

// rootOf is the root of order n, 7 to the power of (P - 1) / n, by exact numbers, or its inverse.
func rootOf(n, dir int) uint64 {
	w := new(big.Int).Exp(big.NewInt(7), bigOf((prime-1)/uint64(n)), bigOf(prime)).Uint64()
	if dir == api.Inverse {
		return inverseOf(w)
	}
	return w
}

// powerOf is a power of the root of order n.
func powerOf(n, dir, power int) uint64 {
	return new(big.Int).Exp(bigOf(rootOf(n, dir)), big.NewInt(int64(power)), bigOf(prime)).Uint64()
}

// plainOf is the transform that isn't divided, by exact sums, as the document says it.
func plainOf(l []uint64, dir int) []uint64 {
	var powers []*big.Int // of the root: those from the length on come again
	for i := range l {
		powers = append(powers, bigOf(powerOf(len(l), dir, i)))
	}
	out := make([]uint64, len(l))
	term := new(big.Int)
	for j := range l {
		sum := new(big.Int)
		for i, w := range l {
			sum.Add(sum, term.Mul(powers[i*j%len(l)], term.SetUint64(w)))
		}
		out[j] = left(sum)
	}
	return out
}

// transformOf is the transform: the inverse one is divided by the length.
func transformOf(l []uint64, dir int) []uint64 {
	out := plainOf(l, dir)
	if dir == api.Inverse {
		share := inverseOf(uint64(len(l)))
		for i, w := range out {
			out[i] = timesOf(w, share)
		}
	}
	return out
}

// added and multiplied are what two rows of one length are word by word.
func added(a, b []uint64) []uint64 {
	out := make([]uint64, len(a))
	for i := range a {
		out[i] = gold.Add(a[i], b[i])
	}
	return out
}

func multiplied(a, b []uint64) []uint64 {
	out := make([]uint64, len(a))
	for i := range a {
		out[i] = gold.Mul(a[i], b[i])
	}
	return out
}

// padded is a row with words 0 behind it.
func padded(l []uint64, n int) []uint64 {
	return append(slices.Clone(l), make([]uint64, n-len(l))...)
}

// mustSame holds words against those that are asked for, and tells the first place where they differ.
func mustSame(t *testing.T, name string, got, want []uint64) {
	t.Helper()
	if len(got) != len(want) {
		t.Errorf("%s: %d words, want %d", name, len(got), len(want))
		return
	}
	for i, w := range want {
		if got[i] != w {
			t.Errorf("%s of %d words: %d at %d, want %d", name, len(want), got[i], i, w)
			return
		}
	}
}

// newKernel is a kernel of an exponent that there are kernels of.
func newKernel(t *testing.T, k int) *Kernel {
	t.Helper()
	x := New(k)
	if x == nil {
		t.Fatalf("New(%d) is nil", k)
	}
	return x
}

// mustWrite holds what a call writes into a row's own place against the words that are asked for; what lies behind the row stays (R4).
func mustWrite(t *testing.T, name string, call func([]uint64, int) api.Errno, l []uint64, dir int, want []uint64) {
	t.Helper()
	behind := []uint64{top, 5, prime, 6}
	memory := slices.Concat(behind, l, behind)
	n := len(behind)
	if e := call(memory[n:n+len(l)], dir); e != api.OK {
		t.Errorf("%s of %d words, %d: %d", name, len(l), dir, e)
	}
	mustSame(t, name, memory[n:n+len(l)], want)
	if !slices.Equal(memory[:n], behind) || !slices.Equal(memory[n+len(l):], behind) {
		t.Errorf("%s of %d words, %d: what lies beside the row became %v and %v", name, len(l), dir, memory[:n], memory[n+len(l):])
	}
}

func mustRun(t *testing.T, x *Kernel, l []uint64, dir int, want []uint64) {
	t.Helper()
	mustWrite(t, "Run", x.Run, l, dir, want)
}

func mustPlain(t *testing.T, x *Kernel, l []uint64, dir int, want []uint64) {
	t.Helper()
	mustWrite(t, "Plain", x.Plain, l, dir, want)
}

// mustRefuse holds Run's and Plain's error against the one that is asked for; nothing is written.
func mustRefuse(t *testing.T, x *Kernel, l []uint64, dir int, want api.Errno) {
	t.Helper()
	calls := map[string]func([]uint64, int) api.Errno{"Run": x.Run, "Plain": x.Plain}
	for name, call := range calls {
		memory := append(slices.Clone(l), 1, 2, 3, top)
		before := slices.Clone(memory)
		if e := call(memory[:len(l)], dir); e != want {
			t.Errorf("%s of %d words, %d, exponent %d: %d, want %d", name, len(l), dir, x.K(), e, want)
		}
		if !slices.Equal(memory, before) {
			t.Errorf("%s of %d words, %d, exponent %d: it has written beside an error", name, len(l), dir, x.K())
		}
	}
}

// mustTransform holds a transform, or no words and an error, against what is asked for; the row itself stays.
func mustTransform(t *testing.T, l []uint64, dir int, want []uint64, wantE api.Errno) {
	t.Helper()
	before := slices.Clone(l)
	got, e := Transform(l, dir)
	if e != wantE {
		t.Errorf("Transform of %d words, %d: %d, want %d", len(l), dir, e, wantE)
	}
	mustSame(t, "Transform", got, want)
	if !slices.Equal(l, before) {
		t.Errorf("Transform of %d words, %d: the row is another one", len(l), dir)
	}
}

// goodTransform is the transform of a row that has one.
func goodTransform(t *testing.T, l []uint64, dir int) []uint64 {
	t.Helper()
	got, e := Transform(l, dir)
	if e != api.OK || len(got) != len(l) {
		t.Fatalf("Transform of %d words, %d: %d words, %d", len(l), dir, len(got), e)
	}
	return got
}

// P9.1: New and K, of each exponent.
func TestNew(t *testing.T) {
	for k := range 21 {
		if x := newKernel(t, k); x.K() != k {
			t.Errorf("New(%d).K() = %d", k, x.K())
		}
	}
}

// P9.1: there is no kernel of other exponents.
func TestNewOfOtherExponents(t *testing.T) {
	for _, k := range badExponents {
		if x := New(k); x != nil {
			t.Errorf("New(%d) is a kernel, of %d", k, x.K())
		}
	}
}

// P9.1: each kernel is one of its own: none becomes another one when others are made and used.
func TestKernelsSideBySide(t *testing.T) {
	var all []*Kernel
	for k := range 8 {
		all = append(all, newKernel(t, k), newKernel(t, k))
	}
	for _, dir := range directions {
		for i, x := range slices.Concat(all, all) {
			k := i % len(all) / 2
			if x.K() != k {
				t.Fatalf("kernel %d: K() = %d, want %d", i, x.K(), k)
			}
			l := mixed(1<<k, uint64(i))
			mustRun(t, x, l, dir, transformOf(l, dir))
		}
	}
}

// P9.1: Butterfly, of each three words by exact numbers, from P on too.
func TestButterfly(t *testing.T) {
	for _, a := range someWords {
		for _, b := range someWords {
			for _, w := range someWords {
				turned := new(big.Int).Mul(bigOf(w), bigOf(b))
				wantS, wantD := left(new(big.Int).Add(bigOf(a), turned)), left(new(big.Int).Sub(bigOf(a), turned))
				if s, d := Butterfly(a, b, w); s != wantS || d != wantD {
					t.Errorf("Butterfly(%d, %d, %d) = %d, %d, want %d, %d", a, b, w, s, d, wantS, wantD)
				}
			}
		}
	}
}

func TestButterflyAtEdges(t *testing.T) {
	u := uint64(1 << 48)
	for _, c := range []struct{ a, b, w, s, d uint64 }{
		{5, 2, 3, 11, prime - 1},
		{0, 0, 0, 0, 0},
		{1, 1, 1, 2, 0},
		{1, 2, 1, 3, prime - 1},
		{1, 2, 0, 1, 1},
		{2, 1, prime - 1, 1, 3},
		{0, u, u, prime - 1, 1},
		{prime, prime, prime, 0, 0},
		{prime + 1, prime + 2, 1, 3, prime - 1},
		{prime - 1, 1, 1, 0, prime - 2},
		{top, 0, 9, 1<<32 - 2, 1<<32 - 2},
	} {
		if s, d := Butterfly(c.a, c.b, c.w); s != c.s || d != c.d {
			t.Errorf("Butterfly(%d, %d, %d) = %d, %d, want %d, %d", c.a, c.b, c.w, s, d, c.s, c.d)
		}
	}
}

// P9.2 and P9.3: Run, Plain and Transform, of many rows of each small length, by exact sums.
func TestTransforms(t *testing.T) {
	for k := range 7 {
		x := newKernel(t, k)
		for _, l := range someRows(1 << k) {
			for _, dir := range directions {
				want := transformOf(l, dir)
				mustRun(t, x, l, dir, want)
				mustTransform(t, l, dir, want, api.OK)
				mustPlain(t, x, l, dir, plainOf(l, dir))
			}
		}
	}
}

// P9.2 and P9.3: longer rows, by exact sums.
func TestTransformsOfLongerRows(t *testing.T) {
	for k := 7; k <= 9; k++ {
		x := newKernel(t, k)
		l := mixed(1<<k, 3)
		for _, dir := range directions {
			want := transformOf(l, dir)
			mustRun(t, x, l, dir, want)
			mustTransform(t, l, dir, want, api.OK)
			mustPlain(t, x, l, dir, plainOf(l, dir))
		}
	}
}

// P9.2 and P9.3: the same as layer 8's transform by its sums, up to the longest row that it has one of.
func TestTransformsGoBySlow(t *testing.T) {
	for k := range 11 {
		x := newKernel(t, k)
		l := mixed(1<<k, 4)
		for _, dir := range directions {
			want, e := twid.Slow(l, dir)
			if e != api.OK {
				t.Fatalf("Slow of 2^%d words: %d", k, e)
			}
			mustRun(t, x, l, dir, want)
			mustTransform(t, l, dir, want, api.OK)
		}
	}
}

func TestTransformsAtEdges(t *testing.T) {
	u := uint64(1 << 48)
	half := inverseOf(2)
	for _, c := range []struct {
		l    []uint64
		dir  int
		want []uint64
	}{
		{[]uint64{1, 0, 0, 0}, api.Forward, []uint64{1, 1, 1, 1}},
		{[]uint64{4, 0, 0, 0}, api.Inverse, []uint64{1, 1, 1, 1}},
		{[]uint64{0, 1, 0, 0}, api.Forward, []uint64{1, u, prime - 1, prime - u}},
		{[]uint64{0, 4, 0, 0}, api.Inverse, []uint64{1, prime - u, prime - 1, u}},
		{[]uint64{0, 0, 1, 0}, api.Forward, []uint64{1, prime - 1, 1, prime - 1}},
		{[]uint64{0, 0, 0, 1}, api.Forward, []uint64{1, prime - u, prime - 1, u}},
		{[]uint64{1, 2, 3, 4}, api.Forward, []uint64{10, prime - 2 - 2*u, prime - 2, 2*u - 2}},
		{[]uint64{4, 4, 4, 4}, api.Inverse, []uint64{4, 0, 0, 0}},
		{[]uint64{1, 1}, api.Forward, []uint64{2, 0}},
		{[]uint64{2, 0}, api.Inverse, []uint64{1, 1}},
		{[]uint64{5, 3}, api.Forward, []uint64{8, 2}},
		{[]uint64{3, 5}, api.Forward, []uint64{8, prime - 2}},
		{[]uint64{0, 1}, api.Inverse, []uint64{half, prime - half}},
		{[]uint64{prime - 1, prime}, api.Forward, []uint64{prime - 1, prime - 1}},
		{[]uint64{0}, api.Forward, []uint64{0}},
		{[]uint64{7}, api.Inverse, []uint64{7}},
		{[]uint64{prime}, api.Forward, []uint64{0}},
		{[]uint64{prime}, api.Inverse, []uint64{0}},
		{[]uint64{prime + 7}, api.Inverse, []uint64{7}},
		{[]uint64{top}, api.Forward, []uint64{1<<32 - 2}},
	} {
		x := newKernel(t, slices.Index([]int{1, 2, 4}, len(c.l)))
		mustRun(t, x, c.l, c.dir, c.want)
		mustTransform(t, c.l, c.dir, c.want, api.OK)
	}
}

func TestPlainAtEdges(t *testing.T) {
	u := uint64(1 << 48)
	for _, c := range []struct {
		l    []uint64
		dir  int
		want []uint64
	}{
		{[]uint64{1, 0, 0, 0}, api.Inverse, []uint64{1, 1, 1, 1}},
		{[]uint64{1, 2, 3, 4}, api.Inverse, []uint64{10, 2*u - 2, prime - 2, prime - 2 - 2*u}},
		{[]uint64{1, 2, 3, 4}, api.Forward, []uint64{10, prime - 2 - 2*u, prime - 2, 2*u - 2}},
		{[]uint64{1, 1}, api.Inverse, []uint64{2, 0}},
		{[]uint64{0, 1}, api.Inverse, []uint64{1, prime - 1}},
		{[]uint64{7}, api.Inverse, []uint64{7}},
		{[]uint64{prime}, api.Forward, []uint64{0}},
		{[]uint64{prime}, api.Inverse, []uint64{0}},
		{[]uint64{top}, api.Inverse, []uint64{1<<32 - 2}},
	} {
		x := newKernel(t, slices.Index([]int{1, 2, 4}, len(c.l)))
		mustPlain(t, x, c.l, c.dir, c.want)
	}
}

// P9.2: a kernel that is used again and again, for both directions, and is refused in between, answers what a new one does (R5, R8).
func TestKernelIsUsedAgain(t *testing.T) {
	for k := range 6 {
		used := newKernel(t, k)
		n := 1 << k
		for i := range 12 {
			l := mixed(n, uint64(i%3)) // each row comes again
			for _, dir := range directions {
				mustRun(t, used, l, dir, transformOf(l, dir))
				mustPlain(t, used, l, dir, plainOf(l, dir))
				mustRefuse(t, used, mixed(n+1, 1), dir, api.ErrLen)
				mustRefuse(t, used, l, 2, api.ErrKind)
			}
			mustRun(t, newKernel(t, k), l, i%2, transformOf(l, i%2))
		}
		if used.K() != k {
			t.Errorf("K() = %d behind its use, want %d", used.K(), k)
		}
	}
}

// P9.2: a row's length that isn't 2^K, powers of two and the kernel's own exponent among them.
func TestKernelOfOtherLengths(t *testing.T) {
	for k := range 11 {
		x := newKernel(t, k)
		n := 1 << k
		for _, other := range []int{0, 1, 2, 3, 4, 5, 7, 8, 16, k, n - 1, n + 1, n / 2, 2 * n, 3 * n, n * n} {
			if other == n {
				continue
			}
			l := mixed(other, 5)
			for _, dir := range directions {
				mustRefuse(t, x, l, dir, api.ErrLen)
			}
		}
		mustRefuse(t, x, nil, api.Forward, api.ErrLen)
	}
	greatest := newKernel(t, 20)
	for _, n := range []int{0, 1, 20, most - 1, most + 1, most / 2, 2 * most} {
		mustRefuse(t, greatest, make([]uint64, n), api.Inverse, api.ErrLen)
	}
}

// P9.2: directions that are none; of words from P on not even what they leave is written.
func TestKernelOfOtherDirections(t *testing.T) {
	for k := range 8 {
		x := newKernel(t, k)
		for _, dir := range badDirections {
			mustRefuse(t, x, mixed(1<<k, 6), dir, api.ErrKind)
			mustRefuse(t, x, alike(1<<k, top), dir, api.ErrKind)
		}
	}
	mustRefuse(t, newKernel(t, 20), alike(most, prime), -1, api.ErrKind)
}

// R2: ErrLen ahead of ErrKind.
func TestKernelOrderOfErrors(t *testing.T) {
	for k := range 8 {
		x := newKernel(t, k)
		for _, dir := range badDirections {
			for _, n := range []int{0, 1<<k - 1, 1<<k + 1, 2 << k} {
				mustRefuse(t, x, mixed(n, 7), dir, api.ErrLen)
			}
		}
	}
}

// P9.3, R2 and R3: ErrLen ahead of ErrKind ahead of ErrLarge, and no words beside them.
func TestTransformRefused(t *testing.T) {
	for _, n := range []int{0, 3, 5, 6, 7, 9, 10, 12, 15, 17, 24, 1000, 1023, 1025, most - 1, most + 1, 3 * most / 2, 2*most - 1, 2*most + 1, 3 * most} {
		l := make([]uint64, n)
		for _, dir := range slices.Concat(directions, badDirections) {
			mustTransform(t, l, dir, nil, api.ErrLen)
		}
	}
	mustTransform(t, nil, api.Forward, nil, api.ErrLen)
	for _, n := range []int{1, 2, 4, 8, 1024, most, 2 * most, 4 * most} {
		l := make([]uint64, n)
		for _, dir := range badDirections {
			mustTransform(t, l, dir, nil, api.ErrKind)
		}
	}
	for _, n := range []int{2 * most, 4 * most, 8 * most} {
		l := make([]uint64, n)
		for _, dir := range directions {
			mustTransform(t, l, dir, nil, api.ErrLarge)
		}
	}
}

// mustTellValues holds some words of a plain transform against the row's values as a polynomial, at the powers of its root.
func mustTellValues(t *testing.T, l, got []uint64, dir int) {
	t.Helper()
	n := len(l)
	for _, j := range []int{0, 1, 2, 3, n / 4, n/2 - 1, n / 2, n/2 + 1, n - 2, n - 1} {
		if want := poly.At(l, powerOf(n, dir, j)); got[j] != want {
			t.Errorf("%d words, %d: %d at %d, want %d", n, dir, got[j], j, want)
		}
	}
}

// P9.2 and P9.3: long rows, of just 2^20 words too: their words, and the way back.
func TestTransformsOfLongRows(t *testing.T) {
	for _, k := range []int{12, 15, 19, 20} {
		x := newKernel(t, k)
		l := mixed(1<<k, 8)
		for _, dir := range directions {
			plain := slices.Clone(l)
			if e := x.Plain(plain, dir); e != api.OK {
				t.Fatalf("Plain of 2^%d words, %d: %d", k, dir, e)
			}
			mustTellValues(t, l, plain, dir)
			if dir == api.Inverse {
				plain = twid.Scale(plain, inverseOf(1<<k))
			}
			mustRun(t, x, l, dir, plain)
			mustTransform(t, l, dir, plain, api.OK)
			mustRun(t, x, plain, 1-dir, canonical(l))
		}
	}
}

// P9.3: rows of just 2^20 words whose transforms are plain to see.
func TestTransformOfJustTheLimit(t *testing.T) {
	mustTransform(t, pulse(most, 0, 1), api.Forward, alike(most, 1), api.OK)
	mustTransform(t, alike(most, 1), api.Forward, pulse(most, 0, most), api.OK)
	mustTransform(t, alike(most, top), api.Inverse, pulse(most, 0, 1<<32-2), api.OK)
	mustTransform(t, pulse(most, 0, most), api.Inverse, alike(most, 1), api.OK)
}

// P9.2 and P9.3: the inverse transform of the forward one is the row, canonical, and the other way about; without the division it is the row, its length times as great.
func TestForwardAndBack(t *testing.T) {
	for k := range 12 {
		x := newKernel(t, k)
		for _, l := range someRows(1 << k) {
			want := canonical(l)
			for _, dir := range directions {
				there := goodTransform(t, l, dir)
				mustTransform(t, there, 1-dir, want, api.OK)
				mustRun(t, x, there, 1-dir, want)
			}
			mustPlain(t, x, goodTransform(t, l, api.Forward), api.Inverse, twid.Scale(l, 1<<k))
		}
	}
}

// P9.4: the transform of a sum is the sum of transforms, that of a row times a word the transform times the word.
func TestTransformIsLinear(t *testing.T) {
	for k := range 11 {
		n := 1 << k
		a, b := mixed(n, 9), mixed(n, 10)
		for _, dir := range directions {
			ofA, ofB := goodTransform(t, a, dir), goodTransform(t, b, dir)
			mustTransform(t, added(a, b), dir, added(ofA, ofB), api.OK)
			for _, w := range someWords {
				mustTransform(t, twid.Scale(a, w), dir, twid.Scale(ofA, w), api.OK)
				mustTransform(t, added(twid.Scale(a, w), b), dir, added(twid.Scale(ofA, w), ofB), api.OK)
			}
		}
	}
}

// P9.4: a row turned by one place has each word of its transform times a power of the root: at j the j-th one.
func TestTransformOfATurnedRow(t *testing.T) {
	for k := range 11 {
		n := 1 << k
		l := mixed(n, 11)
		turned := slices.Concat(l[n-1:], l[:n-1])
		for _, dir := range directions {
			var powers []uint64
			for j := range n {
				powers = append(powers, powerOf(n, dir, j))
			}
			mustTransform(t, turned, dir, multiplied(goodTransform(t, l, dir), powers), api.OK)
		}
	}
}

// P9.4: the transform of a product of polynomials below the length is word by word the product of the transforms, and goes back to the product.
func TestTransformOfAProduct(t *testing.T) {
	for k := 1; k <= 11; k++ {
		n := 1 << k
		for _, cut := range []int{1, n / 2, n/2 + 1, n} { // the words of both together are at most one more than the length
			p, q := mixed(cut, 12), mixed(n+1-cut, 13)
			product, e := poly.Mul(p, q)
			if e != api.OK || len(product) > n {
				t.Fatalf("a product of %d and %d words: %d words, %d", len(p), len(q), len(product), e)
			}
			product = padded(product, n)
			outputs := multiplied(goodTransform(t, padded(p, n), api.Forward), goodTransform(t, padded(q, n), api.Forward))
			mustTransform(t, product, api.Forward, outputs, api.OK)
			mustTransform(t, outputs, api.Inverse, product, api.OK)
		}
	}
}

// R4 and R8: what is handed in to Transform is neither changed nor kept, what lies behind its length is neither read nor written, and answers are new.
func TestTransformKeepsNothing(t *testing.T) {
	for _, n := range []int{1, 2, 4, 8, 16} {
		for _, dir := range directions {
			memory := mixed(64, 14)
			before := slices.Clone(memory)
			first := goodTransform(t, memory[:n], dir)
			kept := slices.Clone(first)
			second := goodTransform(t, memory[:n], dir)
			whole := first[:cap(first)]
			for i := range whole {
				whole[i] = top
			}
			mustSame(t, "the memory that was handed in", memory, before)
			mustSame(t, "the second answer", second, kept)
			for i := range memory[n:] {
				memory[n+i] ^= 1 << 40
			}
			mustTransform(t, memory[:n], dir, kept, api.OK)
			clear(memory)
			mustSame(t, "the second answer", second, kept)
		}
	}
}

// R4: a kernel keeps nothing of a row that it worked on: what is written into the row behind a call changes no later answer.
func TestKernelKeepsNoRow(t *testing.T) {
	x := newKernel(t, 4)
	for _, dir := range directions {
		l := mixed(16, 15)
		want := transformOf(l, dir)
		worked := slices.Clone(l)
		x.Run(worked, dir)
		x.Plain(worked, dir)
		clear(worked)
		mustRun(t, x, l, dir, want)
		if !slices.Equal(worked, make([]uint64, 16)) {
			t.Errorf("a row that was worked on before became %v", worked)
		}
	}
}

// P1: calls end and none panics, whatever numbers and rows come together.
func TestAnyArgument(t *testing.T) {
	numbers := slices.Concat([]int{0, 1, 2, 3, 4, 19, 20}, badExponents, badDirections)
	rows := [][]uint64{nil, {}, {top}, mixed(2, 1), mixed(3, 1), mixed(4, 1), mixed(8, 1), mixed(1023, 1), mixed(1024, 1), make([]uint64, 2*most)}
	for _, dir := range numbers {
		for _, l := range rows {
			Transform(l, dir)
		}
	}
	for _, k := range numbers {
		x := New(k)
		if x == nil {
			continue
		}
		for _, dir := range numbers {
			for _, l := range rows {
				x.Run(l, dir)
				x.Plain(l, dir)
			}
		}
	}
}

// The rules that the tests go by are the document's own: they are held against what is written out by hand.
func TestTheTestsOwnRules(t *testing.T) {
	u := uint64(1 << 48)
	if rootOf(1, api.Forward) != 1 || rootOf(2, api.Inverse) != prime-1 || rootOf(4, api.Forward) != u || rootOf(4, api.Inverse) != prime-u {
		t.Error("rootOf tells another root")
	}
	if powerOf(4, api.Forward, 3) != prime-u || powerOf(4, api.Inverse, 3) != u || powerOf(1, api.Forward, 5) != 1 {
		t.Error("powerOf tells another power")
	}
	mustSame(t, "plainOf", plainOf([]uint64{0, 1, 0, prime}, api.Forward), []uint64{1, u, prime - 1, prime - u})
	mustSame(t, "plainOf", plainOf([]uint64{0, 4, 0, 0}, api.Inverse), []uint64{4, prime - 4*u, prime - 4, 4 * u})
	mustSame(t, "transformOf", transformOf([]uint64{0, 4, 0, 0}, api.Inverse), []uint64{1, prime - u, prime - 1, u})
	mustSame(t, "canonical", canonical([]uint64{prime, top, 3}), []uint64{0, 1<<32 - 2, 3})
	mustSame(t, "padded", padded([]uint64{1, 2}, 4), []uint64{1, 2, 0, 0})
}
