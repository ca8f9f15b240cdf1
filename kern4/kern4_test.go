package kern4_test

import (
	"math"
	"math/big"
	"slices"
	"testing"

	"abacist/api"
	"abacist/gold"
	"abacist/kern2"
	"abacist/kern4"
	"abacist/poly"
	"abacist/twid"
)

const (
	prime = api.P
	top   = uint64(math.MaxUint64)
	most  = 1 << 20 // how many words a kernel's row has at the most
	unit  = uint64(1 << 48)
)

// badExponents are those that no kernel is of; some of them leave one, if but their lowest bits are looked at.
var badExponents = []int{-1, -2, -3, -4, -20, -21, -32, -64, 21, 22, 23, 31, 32, 33, 63, 64, 65, 84, 256, 1 << 32, 1<<32 + 1, 1 << 62, math.MaxInt, math.MaxInt - 1, math.MinInt, math.MinInt + 1}

// badDirections are numbers that are no direction; some of them leave one, if but their lowest bits are looked at.
var badDirections = []int{-1, -2, -3, 2, 3, 4, 5, 256, 257, 1 << 32, 1<<32 + 1, 1 << 62, math.MaxInt, math.MinInt, math.MinInt + 1}

// someWords are edges of the field and of words, from P on too.
var someWords = []uint64{0, 1, 2, 1<<32 - 1, 1 << 32, unit, prime - unit, 1 << 63, prime - 1, prime, prime + 1, prime + 1<<31, top}

var directions = []int{api.Forward, api.Inverse}

// mixed are n words that a fixed rule mixes, some of them from P on.
func mixed(n int, seed uint64) []uint64 {
	l := make([]uint64, n)
	w := seed
	for i := range l {
		w = w*6364136223846793005 + 1442695040888963407
		l[i] = w ^ w>>29
		if i%5 == 3 {
			l[i] = prime + w>>33
		}
	}
	return l
}

// alike are n words that are the same.
func alike(n int, w uint64) []uint64 {
	return slices.Repeat([]uint64{w}, n)
}

// pulse is n words of which all are 0 but the one at a place.
func pulse(n, at int, w uint64) []uint64 {
	l := make([]uint64, n)
	l[at] = w
	return l
}

// someRows are rows of n words.
func someRows(n int) [][]uint64 {
	return [][]uint64{
		make([]uint64, n), alike(n, 1), alike(n, prime-1), alike(n, prime), alike(n, top),
		pulse(n, 0, 1), pulse(n, n-1, 1), pulse(n, n/2, prime-1), pulse(n, n/4, 3), pulse(n, n-1, top),
		mixed(n, 1), mixed(n, 2),
	}
}

// canonical is what each word of a row leaves.
func canonical(l []uint64) []uint64 {
	out := slices.Clone(l)
	for i := range out {
		out[i] %= prime
	}
	return out
}

func bigOf(a uint64) *big.Int {
	return new(big.Int).SetUint64(a)
}

func left(n *big.Int) uint64 {
	return new(big.Int).Mod(n, bigOf(prime)).Uint64()
}

func inverseOf(a uint64) uint64 {
	return new(big.Int).ModInverse(bigOf(a), bigOf(prime)).Uint64()
}

func timesOf(a, b uint64) uint64 {
	return left(new(big.Int).Mul(bigOf(a), bigOf(b)))
}

// powerOf is a power of the root of order n, which is 7 to the power of (P - 1) / n, or of its inverse, by exact numbers.
func powerOf(n, dir, power int) uint64 {
	w := new(big.Int).Exp(big.NewInt(7), bigOf((prime-1)/uint64(n)), bigOf(prime))
	if dir == api.Inverse {
		w.ModInverse(w, bigOf(prime))
	}
	return w.Exp(w, big.NewInt(int64(power)), bigOf(prime)).Uint64()
}

// plainOf is the transform that isn't divided, by exact sums, as the document says it.
func plainOf(l []uint64, dir int) []uint64 {
	var powers []*big.Int // of the root: those from the length on come again
	for i := range l {
		powers = append(powers, bigOf(powerOf(len(l), dir, i)))
	}
	out := make([]uint64, len(l))
	term := new(big.Int)
	for j := range l {
		sum := new(big.Int)
		for i, w := range l {
			sum.Add(sum, term.Mul(powers[i*j%len(l)], term.SetUint64(w)))
		}
		out[j] = left(sum)
	}
	return out
}

// transformOf is the transform: the inverse one is divided by the length.
func transformOf(l []uint64, dir int) []uint64 {
	out := plainOf(l, dir)
	if dir == api.Inverse {
		share := inverseOf(uint64(len(l)))
		for i, w := range out {
			out[i] = timesOf(w, share)
		}
	}
	return out
}

// signedSum is the sum of words with signs, by exact numbers.
func signedSum(signs [4]int64, l [4]*big.Int) uint64 {
	sum := new(big.Int)
	for i, w := range l {
		sum.Add(sum, new(big.Int).Mul(big.NewInt(signs[i]), w))
	}
	return left(sum)
}

// crossingOf is the crossing, by exact sums, as the document says it.
func crossingOf(a, b, c, d, u uint64) [4]uint64 {
	plain := [4]*big.Int{bigOf(a), bigOf(b), bigOf(c), bigOf(d)}
	turned := [4]*big.Int{bigOf(a), new(big.Int).Mul(bigOf(u), bigOf(b)), bigOf(c), new(big.Int).Mul(bigOf(u), bigOf(d))}
	return [4]uint64{
		signedSum([4]int64{1, 1, 1, 1}, plain),
		signedSum([4]int64{1, 1, -1, -1}, turned),
		signedSum([4]int64{1, -1, 1, -1}, plain),
		signedSum([4]int64{1, -1, -1, 1}, turned),
	}
}

// mustSame holds words against those that are asked for, and tells the first place where they differ.
func mustSame(t *testing.T, name string, got, want []uint64) {
	t.Helper()
	if len(got) != len(want) {
		t.Errorf("%s: %d words, want %d", name, len(got), len(want))
		return
	}
	for i, w := range want {
		if got[i] != w {
			t.Errorf("%s of %d words: %d at %d, want %d", name, len(want), got[i], i, w)
			return
		}
	}
}

// newKernel is a kernel of an exponent that there are kernels of.
func newKernel(t *testing.T, k int) *kern4.Kernel {
	t.Helper()
	x := kern4.New(k)
	if x == nil {
		t.Fatalf("New(%d) is nil", k)
	}
	return x
}

// kernelFor is a kernel for a row's length.
func kernelFor(t *testing.T, l []uint64) *kern4.Kernel {
	t.Helper()
	for k := range 21 {
		if len(l) == 1<<k {
			return newKernel(t, k)
		}
	}
	t.Fatalf("no kernel is for %d words", len(l))
	return nil
}

// mustWrite holds what a call writes into a row's own place against the words that are asked for; what lies beside the row stays (R4).
func mustWrite(t *testing.T, name string, call func([]uint64, int) api.Errno, l []uint64, dir int, want []uint64) {
	t.Helper()
	beside := []uint64{top, 5, prime, 6}
	memory := slices.Concat(beside, l, beside)
	n := len(beside)
	if e := call(memory[n:n+len(l)], dir); e != api.OK {
		t.Errorf("%s of %d words, %d: %d", name, len(l), dir, e)
	}
	mustSame(t, name, memory[n:n+len(l)], want)
	if !slices.Equal(memory[:n], beside) || !slices.Equal(memory[n+len(l):], beside) {
		t.Errorf("%s of %d words, %d: what lies beside the row became %v and %v", name, len(l), dir, memory[:n], memory[n+len(l):])
	}
}

func mustRun(t *testing.T, x *kern4.Kernel, l []uint64, dir int, want []uint64) {
	t.Helper()
	mustWrite(t, "Run", x.Run, l, dir, want)
}

func mustPlain(t *testing.T, x *kern4.Kernel, l []uint64, dir int, want []uint64) {
	t.Helper()
	mustWrite(t, "Plain", x.Plain, l, dir, want)
}

// mustRefuse holds Run's and Plain's error against the one that is asked for; nothing is written.
func mustRefuse(t *testing.T, x *kern4.Kernel, l []uint64, dir int, want api.Errno) {
	t.Helper()
	for i, call := range []func([]uint64, int) api.Errno{x.Run, x.Plain} {
		name := []string{"Run", "Plain"}[i]
		memory := append(slices.Clone(l), 1, 2, 3, top)
		before := slices.Clone(memory)
		if e := call(memory[:len(l)], dir); e != want {
			t.Errorf("%s of %d words, %d, exponent %d: %d, want %d", name, len(l), dir, x.K(), e, want)
		}
		if !slices.Equal(memory, before) {
			t.Errorf("%s of %d words, %d, exponent %d: it has written beside an error", name, len(l), dir, x.K())
		}
	}
}

// goodRun is a row's transform, in memory of its own.
func goodRun(t *testing.T, x *kern4.Kernel, l []uint64, dir int) []uint64 {
	t.Helper()
	out := slices.Clone(l)
	if e := x.Run(out, dir); e != api.OK {
		t.Fatalf("Run of %d words, %d: %d", len(l), dir, e)
	}
	return out
}

func mustCross(t *testing.T, a, b, c, d, u uint64, want [4]uint64) {
	t.Helper()
	if got := kern4.Cross(a, b, c, d, u); got != want {
		t.Errorf("Cross(%d, %d, %d, %d, %d) = %v, want %v", a, b, c, d, u, got, want)
	}
}

// P10.1: Cross of words at each edge, in each of the four places, by any u, by exact numbers.
func TestCross(t *testing.T) {
	edges := []uint64{0, 1, unit, prime - 1, prime, prime + 1<<31, top}
	for _, u := range someWords {
		for _, a := range edges {
			for _, b := range edges {
				for _, c := range edges {
					for _, d := range edges {
						mustCross(t, a, b, c, d, u, crossingOf(a, b, c, d, u))
					}
				}
			}
		}
	}
}

// P10.1: Cross of words that a rule mixes, canonical ones and others, by roots of -1 and others.
func TestCrossOfMixedWords(t *testing.T) {
	l := mixed(5*2000, 1)
	for i := 0; i < len(l); i += 5 {
		a, b, c, d := l[i], l[i+1], l[i+2], l[i+3]
		for _, u := range []uint64{l[i+4], unit, prime - unit} {
			mustCross(t, a, b, c, d, u, crossingOf(a, b, c, d, u))
		}
	}
}

func TestCrossAtEdges(t *testing.T) {
	for _, c := range []struct {
		a, b, c, d, u uint64
		want          [4]uint64
	}{
		{1, 2, 3, 4, unit, [4]uint64{10, prime - 2 - 2*unit, prime - 2, 2*unit - 2}},
		{1, 2, 3, 4, prime - unit, [4]uint64{10, 2*unit - 2, prime - 2, prime - 2 - 2*unit}},
		{1, 2, 3, 4, 0, [4]uint64{10, prime - 2, prime - 2, prime - 2}},
		{1, 2, 3, 4, 1, [4]uint64{10, prime - 4, prime - 2, 0}},
		{1, 2, 3, 4, prime, [4]uint64{10, prime - 2, prime - 2, prime - 2}},
		{1, 2, 3, 4, prime - 1, [4]uint64{10, 0, prime - 2, prime - 4}},
		{4, 3, 2, 1, 5, [4]uint64{10, 12, 2, prime - 8}},
		{0, 1, 0, 0, 9, [4]uint64{1, 9, prime - 1, prime - 9}},
		{0, 0, 1, 0, 9, [4]uint64{1, prime - 1, 1, prime - 1}},
		{0, 0, 0, 1, 9, [4]uint64{1, prime - 9, prime - 1, 9}},
		{0, unit, 0, 0, unit, [4]uint64{unit, prime - 1, prime - unit, 1}},
		{0, 0, 0, 0, top, [4]uint64{}},
		{prime, prime, prime, prime, prime, [4]uint64{}},
		{prime + 1, prime + 2, prime + 3, prime + 4, 1, [4]uint64{10, prime - 4, prime - 2, 0}},
		{top, 0, 0, 0, 7, [4]uint64{1<<32 - 2, 1<<32 - 2, 1<<32 - 2, 1<<32 - 2}},
		{top, top, top, top, top, [4]uint64{1<<34 - 8, 0, 0, 0}},
		{prime - 1, prime - 1, prime - 1, prime - 1, 1, [4]uint64{prime - 4, 0, 0, 0}},
	} {
		mustCross(t, c.a, c.b, c.c, c.d, c.u, c.want)
	}
}

// P10.1, and the chapter's example: Cross(1, 0, 0, 0, u) = 1, 1, 1, 1 of any u; one word alone comes four times.
func TestCrossOfOneWord(t *testing.T) {
	for _, u := range slices.Concat(someWords, mixed(100, 2)) {
		mustCross(t, 1, 0, 0, 0, u, [4]uint64{1, 1, 1, 1})
		mustCross(t, prime+1, prime, 0, prime, u, [4]uint64{1, 1, 1, 1})
		mustCross(t, 5, 0, 0, 0, u, [4]uint64{5, 5, 5, 5})
	}
}

// P10.1: a crossing by the unit of a direction is the plain transform of its four words.
func TestCrossIsATransform(t *testing.T) {
	for _, dir := range directions {
		u, e := kern4.Unit(dir)
		if e != api.OK {
			t.Fatalf("Unit(%d): %d", dir, e)
		}
		for seed := range uint64(50) {
			l := mixed(4, seed)
			crossed := kern4.Cross(l[0], l[1], l[2], l[3], u)
			mustSame(t, "Cross", crossed[:], plainOf(l, dir))
		}
	}
}

// P10.1: Unit is the root of order 4, or its inverse: its square is -1.
func TestUnit(t *testing.T) {
	for dir, want := range []uint64{unit, prime - unit} {
		u, e := kern4.Unit(dir)
		if u != want || u != powerOf(4, dir, 1) || e != api.OK {
			t.Errorf("Unit(%d) = %d, %d, want %d", dir, u, e, want)
		}
		if square := timesOf(u, u); square != prime-1 {
			t.Errorf("Unit(%d) has the square %d", dir, square)
		}
	}
	forward, _ := kern4.Unit(api.Forward)
	inverse, _ := kern4.Unit(api.Inverse)
	if timesOf(forward, inverse) != 1 {
		t.Errorf("Unit: %d and %d aren't each other's inverse", forward, inverse)
	}
}

// P10.1 and R3: directions that are none have no unit.
func TestUnitOfOtherDirections(t *testing.T) {
	for _, dir := range badDirections {
		if u, e := kern4.Unit(dir); u != 0 || e != api.ErrKind {
			t.Errorf("Unit(%d) = %d, %d, want 0, %d", dir, u, e, api.ErrKind)
		}
	}
}

// P10.1: Steps of each exponent: a go by quarters makes two of it, one by halves makes one.
func TestSteps(t *testing.T) {
	want := [][2]int{{0, 0}, {0, 1}, {1, 0}, {1, 1}, {2, 0}, {2, 1}, {3, 0}, {3, 1}, {4, 0}, {4, 1}, {5, 0}, {5, 1}, {6, 0}, {6, 1}, {7, 0}, {7, 1}, {8, 0}, {8, 1}, {9, 0}, {9, 1}, {10, 0}}
	for k, w := range want {
		quarters, halves, e := kern4.Steps(k)
		if quarters != w[0] || halves != w[1] || e != api.OK {
			t.Errorf("Steps(%d) = %d, %d, %d, want %d, %d", k, quarters, halves, e, w[0], w[1])
		}
	}
}

// P10.1 and R3: other exponents have no steps.
func TestStepsOfOtherExponents(t *testing.T) {
	for _, k := range badExponents {
		if quarters, halves, e := kern4.Steps(k); quarters != 0 || halves != 0 || e != api.ErrArg {
			t.Errorf("Steps(%d) = %d, %d, %d, want 0, 0, %d", k, quarters, halves, e, api.ErrArg)
		}
	}
}

// P10.2: New and K, of each exponent.
func TestNew(t *testing.T) {
	for k := range 21 {
		if x := newKernel(t, k); x.K() != k {
			t.Errorf("New(%d).K() = %d", k, x.K())
		}
	}
}

// P10.2: there is no kernel of other exponents.
func TestNewOfOtherExponents(t *testing.T) {
	for _, k := range badExponents {
		if x := kern4.New(k); x != nil {
			t.Errorf("New(%d) is a kernel", k)
		}
	}
}

// P10.2: each kernel is one of its own: none becomes another one when others are made and used.
func TestKernelsSideBySide(t *testing.T) {
	var all []*kern4.Kernel
	for k := range 8 {
		all = append(all, newKernel(t, k), newKernel(t, k))
	}
	for _, dir := range directions {
		for i, x := range slices.Concat(all, all) {
			k := i % len(all) / 2
			if x.K() != k {
				t.Fatalf("kernel %d: K() = %d, want %d", i, x.K(), k)
			}
			l := mixed(1<<k, uint64(i))
			mustRun(t, x, l, dir, transformOf(l, dir))
		}
	}
}

// P10.2: Run and Plain, of many rows of each small length, by exact sums.
func TestTransforms(t *testing.T) {
	for k := range 7 {
		x := newKernel(t, k)
		for _, l := range someRows(1 << k) {
			for _, dir := range directions {
				mustRun(t, x, l, dir, transformOf(l, dir))
				mustPlain(t, x, l, dir, plainOf(l, dir))
			}
		}
	}
}

// P10.2: longer rows, of even exponents and odd ones, by exact sums.
func TestTransformsOfLongerRows(t *testing.T) {
	for k := 7; k <= 9; k++ {
		x := newKernel(t, k)
		l := mixed(1<<k, 3)
		for _, dir := range directions {
			mustRun(t, x, l, dir, transformOf(l, dir))
			mustPlain(t, x, l, dir, plainOf(l, dir))
		}
	}
}

// P10.2: the same as layer 8's transform by its sums, up to the longest row that it has one of.
func TestTransformsGoBySlow(t *testing.T) {
	for k := range 11 {
		x := newKernel(t, k)
		l := mixed(1<<k, 4)
		for _, dir := range directions {
			want, e := twid.Slow(l, dir)
			if e != api.OK {
				t.Fatalf("Slow of 2^%d words: %d", k, e)
			}
			mustRun(t, x, l, dir, want)
		}
	}
}

// P10.2: each word of a row goes to its own powers of the root: a row with but one word has them.
func TestTransformsOfPulses(t *testing.T) {
	for k := range 8 {
		x := newKernel(t, k)
		n := 1 << k
		for at := range n {
			for _, dir := range directions {
				var want []uint64
				for j := range n {
					want = append(want, powerOf(n, dir, at*j%n))
				}
				mustPlain(t, x, pulse(n, at, 1), dir, want)
				mustRun(t, x, pulse(n, at, []uint64{1, uint64(n)}[dir]), dir, want)
			}
		}
	}
}

func TestRunAtEdges(t *testing.T) {
	half := inverseOf(2)
	for _, c := range []struct {
		l    []uint64
		dir  int
		want []uint64
	}{
		{[]uint64{1, 0, 0, 0}, api.Forward, []uint64{1, 1, 1, 1}},
		{[]uint64{4, 0, 0, 0}, api.Inverse, []uint64{1, 1, 1, 1}},
		{[]uint64{0, 1, 0, 0}, api.Forward, []uint64{1, unit, prime - 1, prime - unit}},
		{[]uint64{0, 4, 0, 0}, api.Inverse, []uint64{1, prime - unit, prime - 1, unit}},
		{[]uint64{0, 0, 1, 0}, api.Forward, []uint64{1, prime - 1, 1, prime - 1}},
		{[]uint64{0, 0, 0, 1}, api.Forward, []uint64{1, prime - unit, prime - 1, unit}},
		{[]uint64{1, 2, 3, 4}, api.Forward, []uint64{10, prime - 2 - 2*unit, prime - 2, 2*unit - 2}},
		{[]uint64{4, 4, 4, 4}, api.Inverse, []uint64{4, 0, 0, 0}},
		{[]uint64{prime + 1, prime, prime, prime}, api.Forward, []uint64{1, 1, 1, 1}},
		{[]uint64{top, top, top, top}, api.Inverse, []uint64{1<<32 - 2, 0, 0, 0}},
		{[]uint64{1, 0, 0, 0, 0, 0, 0, 0}, api.Forward, alike(8, 1)},
		{[]uint64{0, 0, 1, 0, 0, 0, 0, 0}, api.Forward, []uint64{1, unit, prime - 1, prime - unit, 1, unit, prime - 1, prime - unit}},
		{[]uint64{0, 0, 0, 0, 8, 0, 0, 0}, api.Inverse, []uint64{1, prime - 1, 1, prime - 1, 1, prime - 1, 1, prime - 1}},
		{alike(8, 3), api.Forward, pulse(8, 0, 24)},
		{[]uint64{1, 1}, api.Forward, []uint64{2, 0}},
		{[]uint64{2, 0}, api.Inverse, []uint64{1, 1}},
		{[]uint64{3, 5}, api.Forward, []uint64{8, prime - 2}},
		{[]uint64{0, 1}, api.Inverse, []uint64{half, prime - half}},
		{[]uint64{prime - 1, prime}, api.Forward, []uint64{prime - 1, prime - 1}},
		{[]uint64{0}, api.Forward, []uint64{0}},
		{[]uint64{7}, api.Inverse, []uint64{7}},
		{[]uint64{prime}, api.Forward, []uint64{0}},
		{[]uint64{prime + 7}, api.Inverse, []uint64{7}},
		{[]uint64{top}, api.Forward, []uint64{1<<32 - 2}},
		{[]uint64{top}, api.Inverse, []uint64{1<<32 - 2}},
	} {
		mustRun(t, kernelFor(t, c.l), c.l, c.dir, c.want)
	}
}

func TestPlainAtEdges(t *testing.T) {
	for _, c := range []struct {
		l    []uint64
		dir  int
		want []uint64
	}{
		{[]uint64{1, 0, 0, 0}, api.Inverse, []uint64{1, 1, 1, 1}},
		{[]uint64{1, 2, 3, 4}, api.Inverse, []uint64{10, 2*unit - 2, prime - 2, prime - 2 - 2*unit}},
		{[]uint64{1, 2, 3, 4}, api.Forward, []uint64{10, prime - 2 - 2*unit, prime - 2, 2*unit - 2}},
		{[]uint64{0, 0, 1, 0, 0, 0, 0, 0}, api.Inverse, []uint64{1, prime - unit, prime - 1, unit, 1, prime - unit, prime - 1, unit}},
		{alike(8, 3), api.Inverse, pulse(8, 0, 24)},
		{[]uint64{1, 1}, api.Inverse, []uint64{2, 0}},
		{[]uint64{0, 1}, api.Inverse, []uint64{1, prime - 1}},
		{[]uint64{7}, api.Inverse, []uint64{7}},
		{[]uint64{prime}, api.Forward, []uint64{0}},
		{[]uint64{prime}, api.Inverse, []uint64{0}},
		{[]uint64{top}, api.Inverse, []uint64{1<<32 - 2}},
	} {
		mustPlain(t, kernelFor(t, c.l), c.l, c.dir, c.want)
	}
}

// P10.2: a kernel that is used again and again, for both directions, and is refused in between, answers what a new one does (R5, R8).
func TestKernelIsUsedAgain(t *testing.T) {
	for k := range 7 {
		used := newKernel(t, k)
		n := 1 << k
		for i := range 12 {
			l := mixed(n, uint64(i%3)) // each row comes again
			for _, dir := range directions {
				mustRun(t, used, l, dir, transformOf(l, dir))
				mustPlain(t, used, l, dir, plainOf(l, dir))
				mustRefuse(t, used, mixed(n+1, 1), dir, api.ErrLen)
				mustRefuse(t, used, l, 2, api.ErrKind)
			}
			mustRun(t, newKernel(t, k), l, i%2, transformOf(l, i%2))
		}
		if used.K() != k {
			t.Errorf("K() = %d behind its use, want %d", used.K(), k)
		}
	}
}

// P10.2: a row's length that isn't 2^K, powers of two and of four and the kernel's own exponent among them.
func TestKernelOfOtherLengths(t *testing.T) {
	for k := range 11 {
		x := newKernel(t, k)
		n := 1 << k
		for _, other := range []int{0, 1, 2, 3, 4, 5, 7, 8, 16, 64, k, n - 1, n + 1, n / 4, n / 2, 2 * n, 3 * n, 4 * n, n * n} {
			if other == n {
				continue
			}
			l := mixed(other, 5)
			for _, dir := range directions {
				mustRefuse(t, x, l, dir, api.ErrLen)
			}
		}
		mustRefuse(t, x, nil, api.Forward, api.ErrLen)
	}
	greatest := newKernel(t, 20)
	for _, n := range []int{0, 1, 20, most - 1, most + 1, most / 4, most / 2, 2 * most} {
		mustRefuse(t, greatest, make([]uint64, n), api.Inverse, api.ErrLen)
	}
}

// P10.2: directions that are none; of words from P on not even what they leave is written.
func TestKernelOfOtherDirections(t *testing.T) {
	for k := range 8 {
		x := newKernel(t, k)
		for _, dir := range badDirections {
			mustRefuse(t, x, mixed(1<<k, 6), dir, api.ErrKind)
			mustRefuse(t, x, alike(1<<k, top), dir, api.ErrKind)
		}
	}
	mustRefuse(t, newKernel(t, 19), alike(most/2, top), 2, api.ErrKind)
	mustRefuse(t, newKernel(t, 20), alike(most, prime), -1, api.ErrKind)
}

// R2: ErrLen ahead of ErrKind.
func TestKernelOrderOfErrors(t *testing.T) {
	for k := range 8 {
		x := newKernel(t, k)
		for _, dir := range badDirections {
			for _, n := range []int{0, 1<<k - 1, 1<<k + 1, 2 << k, 4 << k} {
				mustRefuse(t, x, mixed(n, 7), dir, api.ErrLen)
			}
		}
	}
}

// mustGoByHalves holds what a kernel does with a row, and tells, against what layer 9's does: Run of both, and Plain of both.
func mustGoByHalves(t *testing.T, x *kern4.Kernel, y *kern2.Kernel, l []uint64, dir int) {
	t.Helper()
	ours := []func([]uint64, int) api.Errno{x.Run, x.Plain}
	theirs := []func([]uint64, int) api.Errno{y.Run, y.Plain}
	for i, name := range []string{"Run", "Plain"} {
		got, want := slices.Clone(l), slices.Clone(l)
		gotE, wantE := ours[i](got, dir), theirs[i](want, dir)
		if gotE != wantE {
			t.Errorf("%s of %d words, %d, exponent %d: %d, layer 9 answers %d", name, len(l), dir, x.K(), gotE, wantE)
		}
		mustSame(t, name, got, want)
	}
}

// P10.3: it answers what layer 9's does, of rows that it takes and of those that it refuses.
func TestGoesByHalves(t *testing.T) {
	for k := range 14 {
		x, y := newKernel(t, k), kern2.New(k)
		n := 1 << k
		for _, dir := range slices.Concat(directions, badDirections) {
			for _, other := range []int{0, 1, n - 1, n, n + 1, 2 * n} {
				mustGoByHalves(t, x, y, mixed(other, 8), dir)
			}
		}
		for _, l := range someRows(n) {
			for _, dir := range directions {
				mustGoByHalves(t, x, y, l, dir)
			}
		}
	}
}

// P10.3: there are kernels of the same exponents, with the same K.
func TestKernelsAreThoseOfHalves(t *testing.T) {
	for _, k := range slices.Concat([]int{0, 1, 2, 3, 12, 19, 20}, badExponents) {
		x, y := kern4.New(k), kern2.New(k)
		if (x == nil) != (y == nil) {
			t.Errorf("New(%d): nil %v, layer 9's %v", k, x == nil, y == nil)
		} else if x != nil && x.K() != y.K() {
			t.Errorf("New(%d).K() = %d, layer 9's %d", k, x.K(), y.K())
		}
	}
}

// P10.3: long rows, of even exponents and odd ones, of just 2^20 words too.
func TestLongRowsGoByHalves(t *testing.T) {
	for k := 14; k <= 20; k++ {
		x, y := newKernel(t, k), kern2.New(k)
		for _, dir := range directions {
			mustGoByHalves(t, x, y, mixed(1<<k, 9), dir)
		}
	}
}

// P10.2: some words of long rows' plain transforms are the row's values as a polynomial, at the powers of the root.
func TestLongRowsTellValues(t *testing.T) {
	for _, k := range []int{12, 15, 19, 20} {
		x := newKernel(t, k)
		n := 1 << k
		l := mixed(n, 10)
		for _, dir := range directions {
			plain := slices.Clone(l)
			if e := x.Plain(plain, dir); e != api.OK {
				t.Fatalf("Plain of 2^%d words, %d: %d", k, dir, e)
			}
			for _, j := range []int{0, 1, 2, 3, n / 4, n/2 - 1, n / 2, n/2 + 1, 3 * n / 4, n - 2, n - 1} {
				if want := poly.At(l, powerOf(n, dir, j)); plain[j] != want {
					t.Errorf("%d words, %d: %d at %d, want %d", n, dir, plain[j], j, want)
				}
			}
		}
	}
}

// P10.2: rows of just 2^20 words whose transforms are plain to see.
func TestTransformsOfJustTheLimit(t *testing.T) {
	x := newKernel(t, 20)
	mustRun(t, x, pulse(most, 0, 1), api.Forward, alike(most, 1))
	mustRun(t, x, alike(most, 1), api.Forward, pulse(most, 0, most))
	mustRun(t, x, alike(most, top), api.Inverse, pulse(most, 0, 1<<32-2))
	mustPlain(t, x, pulse(most, 0, prime+1), api.Inverse, alike(most, 1))
}

// P10.2: the inverse transform of the forward one is the row, canonical, and the other way about; without the division it is the row, its length times as great.
func TestForwardAndBack(t *testing.T) {
	for k := range 14 {
		x := newKernel(t, k)
		for _, l := range someRows(1 << k) {
			for _, dir := range directions {
				mustRun(t, x, goodRun(t, x, l, dir), 1-dir, canonical(l))
			}
			mustPlain(t, x, goodRun(t, x, l, api.Forward), api.Inverse, twid.Scale(l, 1<<k))
		}
	}
	for _, k := range []int{19, 20} {
		x := newKernel(t, k)
		l := mixed(1<<k, 11)
		mustRun(t, x, goodRun(t, x, l, api.Forward), api.Inverse, canonical(l))
	}
}

// P10.2: the transform of a row times a word, and another row, is the transform times the word, and the other transform.
func TestTransformIsLinear(t *testing.T) {
	for k := range 11 {
		x := newKernel(t, k)
		a, b := mixed(1<<k, 12), mixed(1<<k, 13)
		for _, dir := range directions {
			ofA, ofB := goodRun(t, x, a, dir), goodRun(t, x, b, dir)
			for _, w := range someWords {
				both, want := slices.Clone(a), slices.Clone(ofA)
				for i := range both {
					both[i] = gold.Add(gold.Mul(a[i], w), b[i])
					want[i] = gold.Add(gold.Mul(ofA[i], w), ofB[i])
				}
				mustRun(t, x, both, dir, want)
			}
		}
	}
}

// R4: a kernel keeps nothing of a row that it worked on: what is written into the row behind a call changes no later answer, and no later call writes into it.
func TestKernelKeepsNoRow(t *testing.T) {
	for k := range 7 {
		x := newKernel(t, k)
		n := 1 << k
		for _, dir := range directions {
			l := mixed(n, 14)
			want := transformOf(l, dir)
			worked := slices.Clone(l)
			x.Run(worked, dir)
			x.Plain(worked, dir)
			clear(worked)
			mustRun(t, x, l, dir, want)
			mustSame(t, "a row that was worked on before", worked, make([]uint64, n))
		}
	}
}

// P1: calls end and none panics, whatever numbers and rows come together.
func TestAnyArgument(t *testing.T) {
	numbers := slices.Concat([]int{0, 1, 2, 3, 4, 5, 19, 20}, badExponents, badDirections)
	rows := [][]uint64{nil, {}, {top}, mixed(2, 1), mixed(3, 1), mixed(4, 1), mixed(8, 1), mixed(1023, 1), mixed(1024, 1), make([]uint64, 2*most)}
	for _, n := range numbers {
		kern4.Unit(n)
		kern4.Steps(n)
		kern4.Cross(uint64(n), uint64(n), top, 0, uint64(n))
		x := kern4.New(n)
		if x == nil {
			continue
		}
		for _, dir := range numbers {
			for _, l := range rows {
				x.Run(l, dir)
				x.Plain(l, dir)
			}
		}
	}
}

// The rules that the tests go by are the document's own: they are held against what is written out by hand.
func TestTheTestsOwnRules(t *testing.T) {
	if powerOf(4, api.Forward, 1) != unit || powerOf(4, api.Inverse, 1) != prime-unit || powerOf(4, api.Forward, 3) != prime-unit || powerOf(2, api.Inverse, 1) != prime-1 || powerOf(1, api.Forward, 5) != 1 {
		t.Error("powerOf tells another power")
	}
	if got, want := crossingOf(1, 2, 3, 4, 10), [4]uint64{10, prime - 22, prime - 2, 18}; got != want {
		t.Errorf("crossingOf tells %v, want %v", got, want)
	}
	mustSame(t, "plainOf", plainOf([]uint64{0, 1, 0, prime}, api.Forward), []uint64{1, unit, prime - 1, prime - unit})
	mustSame(t, "plainOf", plainOf([]uint64{0, 4, 0, 0}, api.Inverse), []uint64{4, prime - 4*unit, prime - 4, 4 * unit})
	mustSame(t, "transformOf", transformOf([]uint64{0, 4, 0, 0}, api.Inverse), []uint64{1, prime - unit, prime - 1, unit})
	mustSame(t, "canonical", canonical([]uint64{prime, top, 3}), []uint64{0, 1<<32 - 2, 3})
}
