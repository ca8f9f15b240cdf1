package conv_test

import (
	"math"
	"math/big"
	"slices"
	"testing"

	"abacist/api"
	"abacist/conv"
	"abacist/gold"
	"abacist/poly"
)

const (
	prime = api.P
	top   = uint64(math.MaxUint64)
	most  = 1 << 19 // how many words a convolution's rows have at the most, and a product's polynomials together
)

// someWords are edges of the field and of words, from P on too.
var someWords = []uint64{0, 1, 2, 3, 7, 1<<32 - 1, 1 << 32, 1 << 48, 1 << 63, prime - 2, prime - 1, prime, prime + 1, prime + 2, top - 1, top}

// zeros are rows that are the zero polynomial.
var zeros = [][]uint64{nil, {}, {0}, {prime}, {0, 0}, {prime, 0, prime}, make([]uint64, 200)}

// kind is a call of two rows, and the document's rule of it: which word of b meets a's at i in the sum at j, and whether it is negative there.
type kind struct {
	name  string
	call  func(a, b []uint64) ([]uint64, api.Errno)
	meets func(i, j, n int) (m int, away bool)
}

func kinds() []kind {
	return []kind{
		{"Cyclic", conv.Cyclic, func(i, j, n int) (int, bool) {
			if i > j { // i and m together are j and n
				return j + n - i, false
			}
			return j - i, false
		}},
		{"Negacyclic", conv.Negacyclic, func(i, j, n int) (int, bool) {
			if i > j {
				return j + n - i, true
			}
			return j - i, false
		}},
		{"Correlate", conv.Correlate, func(i, j, n int) (int, bool) {
			if i < j { // i is m and j less n
				return i - j + n, false
			}
			return i - j, false
		}},
	}
}

// mixed are n words that a fixed rule mixes, some of them from P on; the last one isn't 0 in the field.
func mixed(n int, seed uint64) []uint64 {
	l := make([]uint64, n)
	w := seed
	for i := range l {
		w = w*6364136223846793005 + 1442695040888963407
		l[i] = w ^ w>>29
		if i%5 == 3 {
			l[i] = prime + w>>33
		}
	}
	if n > 0 && l[n-1]%prime == 0 {
		l[n-1] = 1
	}
	return l
}

// alike are n words that are the same.
func alike(n int, w uint64) []uint64 {
	return slices.Repeat([]uint64{w}, n)
}

// pulse is n words of which all are 0 but the one at a place.
func pulse(n, at int, w uint64) []uint64 {
	l := make([]uint64, n)
	l[at] = w
	return l
}

// padded is a row with n words behind it that are 0 in the field, every other one P.
func padded(p []uint64, n int) []uint64 {
	l := slices.Clone(p)
	for i := range n {
		l = append(l, uint64(i%2)*prime)
	}
	return l
}

// someRows are rows of n words.
func someRows(n int) [][]uint64 {
	return [][]uint64{
		make([]uint64, n), alike(n, 1), alike(n, prime-1), alike(n, prime), alike(n, top),
		pulse(n, 0, 1), pulse(n, n-1, 1), pulse(n, n/2, prime-1), pulse(n, n-1, top),
		mixed(n, 1), mixed(n, 2),
	}
}

// canonical is what each word of a row leaves.
func canonical(l []uint64) []uint64 {
	out := slices.Clone(l)
	for i := range out {
		out[i] %= prime
	}
	return out
}

func bigOf(a uint64) *big.Int {
	return new(big.Int).SetUint64(a)
}

func left(n *big.Int) uint64 {
	return new(big.Int).Mod(n, bigOf(prime)).Uint64()
}

// sumsOf is what a call of two rows has to answer, by exact sums, as the document says it.
func sumsOf(c kind, a, b []uint64) []uint64 {
	out := make([]uint64, len(a))
	var x, y, term big.Int
	for j := range a {
		sum := new(big.Int)
		for i, w := range a {
			m, away := c.meets(i, j, len(a))
			term.Mul(x.SetUint64(w), y.SetUint64(b[m]))
			if away {
				term.Neg(&term)
			}
			sum.Add(sum, &term)
		}
		out[j] = left(sum)
	}
	return out
}

// wordOf is one word of that, of rows that are long.
func wordOf(t *testing.T, c kind, a, b []uint64, j int) uint64 {
	t.Helper()
	met := make([]uint64, len(a))
	for i := range a {
		m, away := c.meets(i, j, len(a))
		met[i] = b[m]
		if away {
			met[i] = gold.Neg(b[m])
		}
	}
	w, e := gold.Dot(a, met)
	if e != api.OK {
		t.Fatalf("Dot of %d words: %d", len(a), e)
	}
	return w
}

// productOf is the product of two polynomials by exact sums, trimmed.
func productOf(p, q []uint64) []uint64 {
	sums := make([]*big.Int, len(p)+len(q))
	for i := range sums {
		sums[i] = new(big.Int)
	}
	var x, y, term big.Int
	for i, a := range p {
		for j, b := range q {
			term.Mul(x.SetUint64(a), y.SetUint64(b))
			sums[i+j].Add(sums[i+j], &term)
		}
	}
	words, last := make([]uint64, len(sums)), 0
	for i, n := range sums {
		words[i] = left(n)
		if words[i] != 0 {
			last = i + 1
		}
	}
	return words[:last]
}

// productOfAll is that of all polynomials, one behind the other.
func productOfAll(l ...[]uint64) []uint64 {
	all := []uint64{1}
	for _, p := range l {
		all = productOf(all, p)
	}
	return all
}

// shiftOf is the row turned about, each word's place by exact numbers.
func shiftOf(a []uint64, n int) []uint64 {
	var out []uint64
	for j := range a {
		from := new(big.Int).Sub(big.NewInt(int64(j)), big.NewInt(int64(n)))
		from.Mod(from, big.NewInt(int64(len(a)))) // at least 0, of numbers below 0 too
		out = append(out, a[from.Int64()])
	}
	return out
}

// mustSame holds words against those that are asked for, and tells the first place where they differ.
func mustSame(t *testing.T, name string, got, want []uint64) {
	t.Helper()
	if len(got) != len(want) {
		t.Errorf("%s: %d words, want %d", name, len(got), len(want))
		return
	}
	for i, w := range want {
		if got[i] != w {
			t.Errorf("%s of %d words: %d at %d, want %d", name, len(want), got[i], i, w)
			return
		}
	}
}

// mustKeep calls with rows that lie in greater memory, and holds the answer against what is asked for; what is handed in and what lies beside it stays, also when the answer is written over and grown, and the answer stays, when what was handed in is written over (R4); the same question has the same answer again (R8).
func mustKeep(t *testing.T, name string, call func(l [][]uint64) ([]uint64, api.Errno), rows [][]uint64, want []uint64, wantE api.Errno) {
	t.Helper()
	beside := []uint64{top, 5, prime, 6}
	var memory, before, handed [][]uint64
	for _, l := range rows {
		m := slices.Concat(beside, l, beside)
		memory, before = append(memory, m), append(before, slices.Clone(m))
		handed = append(handed, m[len(beside):len(beside)+len(l)])
	}
	lists := slices.Clone(handed)
	got, e := call(handed)
	if e != wantE {
		t.Errorf("%s: %d, want %d", name, e, wantE)
	}
	mustSame(t, name, got, want)
	for i := range got[:cap(got)] {
		got[:cap(got)][i] = 12345
	}
	_ = append(got, 1, 2, 3)
	for i, m := range memory {
		mustSame(t, name+": what was handed in", m, before[i])
		if len(handed[i]) != len(lists[i]) || len(lists[i]) > 0 && &handed[i][0] != &lists[i][0] {
			t.Errorf("%s: the list of rows is another one", name)
		}
	}
	again, _ := call(handed)
	mustSame(t, name+" again", again, want)
	for _, m := range memory {
		clear(m)
	}
	mustSame(t, name+" when its rows are written over", again, want)
}

// must holds the answer of a call of two rows against what is asked for.
func must(t *testing.T, c kind, a, b, want []uint64) {
	t.Helper()
	mustKeep(t, c.name, func(l [][]uint64) ([]uint64, api.Errno) { return c.call(l[0], l[1]) }, [][]uint64{a, b}, want, api.OK)
}

// mustRefuse holds the error of a call of two rows against the one that is asked for, with no words beside it (R3).
func mustRefuse(t *testing.T, a, b []uint64, want api.Errno) {
	t.Helper()
	for _, c := range kinds() {
		mustKeep(t, c.name, func(l [][]uint64) ([]uint64, api.Errno) { return c.call(l[0], l[1]) }, [][]uint64{a, b}, nil, want)
	}
}

func mustProduct(t *testing.T, want []uint64, l ...[]uint64) {
	t.Helper()
	mustKeep(t, "Product", func(l [][]uint64) ([]uint64, api.Errno) { return conv.Product(l...) }, l, want, api.OK)
}

func mustNotProduct(t *testing.T, l ...[]uint64) {
	t.Helper()
	mustKeep(t, "Product", func(l [][]uint64) ([]uint64, api.Errno) { return conv.Product(l...) }, l, nil, api.ErrLarge)
}

func mustPower(t *testing.T, p []uint64, n int, want []uint64) {
	t.Helper()
	mustKeep(t, "Power", func(l [][]uint64) ([]uint64, api.Errno) { return conv.Power(l[0], n) }, [][]uint64{p}, want, api.OK)
}

func mustNotPower(t *testing.T, p []uint64, n int, want api.Errno) {
	t.Helper()
	mustKeep(t, "Power", func(l [][]uint64) ([]uint64, api.Errno) { return conv.Power(l[0], n) }, [][]uint64{p}, nil, want)
}

func mustShift(t *testing.T, a []uint64, n int, want []uint64) {
	t.Helper()
	mustKeep(t, "Shift", func(l [][]uint64) ([]uint64, api.Errno) { return conv.Shift(l[0], n), api.OK }, [][]uint64{a}, want, api.OK)
}

// good is the answer of a call that has one.
func good(t *testing.T, c kind, a, b []uint64) []uint64 {
	t.Helper()
	got, e := c.call(a, b)
	if e != api.OK || len(got) != len(a) {
		t.Fatalf("%s of %d words: %d words, %d", c.name, len(a), len(got), e)
	}
	return got
}

func goodProduct(t *testing.T, l ...[]uint64) []uint64 {
	t.Helper()
	got, e := conv.Product(l...)
	if e != api.OK {
		t.Fatalf("Product of %d polynomials: %d", len(l), e)
	}
	return got
}

func goodPower(t *testing.T, p []uint64, n int) []uint64 {
	t.Helper()
	got, e := conv.Power(p, n)
	if e != api.OK {
		t.Fatalf("Power of %d words, %d: %d", len(p), n, e)
	}
	return got
}

// The tests go by rules of their own: they are held against what is written out by hand.
func TestTheTestsOwnRules(t *testing.T) {
	a, b := []uint64{1, 2, 3, 4}, []uint64{5, 6, 7, 8}
	wants := [][]uint64{{66, 68, 66, 60}, {prime - 56, prime - 36, 2, 60}, {70, 64, 62, 64}}
	for i, c := range kinds() {
		mustSame(t, "sums of "+c.name, sumsOf(c, a, b), wants[i])
		for j, w := range wants[i] {
			if got := wordOf(t, c, a, b, j); got != w {
				t.Errorf("a word of %s: %d at %d, want %d", c.name, got, j, w)
			}
		}
	}
	mustSame(t, "productOf", productOf([]uint64{1, 1, 0}, []uint64{prime - 1, 1, prime}), []uint64{prime - 1, 0, 1})
	mustSame(t, "productOf", productOf([]uint64{1, 1, 0}, []uint64{0}), nil)
	mustSame(t, "productOfAll", productOfAll(), []uint64{1})
	mustSame(t, "productOfAll", productOfAll([]uint64{1, 1}, []uint64{1, 1}, []uint64{1, 1}), []uint64{1, 3, 3, 1})
	mustSame(t, "shiftOf", shiftOf(a, 1), []uint64{4, 1, 2, 3})
	mustSame(t, "shiftOf", shiftOf(a, -5), []uint64{2, 3, 4, 1})
}

// P13.1: the chapter's examples, and others that are written out.
func TestConvolutionsAtEdges(t *testing.T) {
	for _, x := range []struct{ a, b, cyclic, negacyclic, correlation []uint64 }{
		{[]uint64{1, 2}, []uint64{3, 4}, []uint64{11, 10}, []uint64{prime - 5, 10}, []uint64{11, 10}},
		{[]uint64{3}, []uint64{5}, []uint64{15}, []uint64{15}, []uint64{15}},
		{[]uint64{0}, []uint64{top}, []uint64{0}, []uint64{0}, []uint64{0}},
		{[]uint64{prime}, []uint64{7}, []uint64{0}, []uint64{0}, []uint64{0}},
		{[]uint64{prime + 2}, []uint64{prime + 3}, []uint64{6}, []uint64{6}, []uint64{6}},
		{[]uint64{prime - 1}, []uint64{prime - 1}, []uint64{1}, []uint64{1}, []uint64{1}},
		{[]uint64{top}, []uint64{1}, []uint64{1<<32 - 2}, []uint64{1<<32 - 2}, []uint64{1<<32 - 2}},
		{[]uint64{0, 1}, []uint64{0, 1}, []uint64{1, 0}, []uint64{prime - 1, 0}, []uint64{1, 0}},
		{[]uint64{1, 0}, []uint64{0, 1}, []uint64{0, 1}, []uint64{0, 1}, []uint64{0, 1}},
		{[]uint64{prime, prime + 1}, []uint64{prime, prime - 1}, []uint64{prime - 1, 0}, []uint64{1, 0}, []uint64{prime - 1, 0}},
		{[]uint64{top, top}, []uint64{1, prime}, []uint64{1<<32 - 2, 1<<32 - 2}, []uint64{1<<32 - 2, 1<<32 - 2}, []uint64{1<<32 - 2, 1<<32 - 2}},
		{[]uint64{0, 1, 0, 0}, []uint64{0, 0, 0, 1}, []uint64{1, 0, 0, 0}, []uint64{prime - 1, 0, 0, 0}, []uint64{0, 0, 1, 0}},
		{[]uint64{0, 0, 0, 1}, []uint64{0, 1, 0, 0}, []uint64{1, 0, 0, 0}, []uint64{prime - 1, 0, 0, 0}, []uint64{0, 0, 1, 0}},
		{[]uint64{1, 0, 0, 0}, []uint64{0, 1, 0, 0}, []uint64{0, 1, 0, 0}, []uint64{0, 1, 0, 0}, []uint64{0, 0, 0, 1}},
		{[]uint64{1, 2, 3, 4}, []uint64{5, 6, 7, 8}, []uint64{66, 68, 66, 60}, []uint64{prime - 56, prime - 36, 2, 60}, []uint64{70, 64, 62, 64}},
		{[]uint64{1, 1, 1, 1}, []uint64{1, 1, 1, 1}, []uint64{4, 4, 4, 4}, []uint64{prime - 2, 0, 2, 4}, []uint64{4, 4, 4, 4}},
	} {
		for i, want := range [][]uint64{x.cyclic, x.negacyclic, x.correlation} {
			must(t, kinds()[i], x.a, x.b, want)
		}
	}
}

// P13.1: each pair of edges of the field, as rows of one word and as words of rows of two.
func TestConvolutionsOfEdgeWords(t *testing.T) {
	for _, c := range kinds() {
		for _, v := range someWords {
			for _, w := range someWords {
				for _, x := range [][2][]uint64{{{v}, {w}}, {{v, w}, {w, top}}, {{0, v}, {prime - 1, w}}} {
					must(t, c, x[0], x[1], sumsOf(c, x[0], x[1]))
				}
			}
		}
	}
}

// P13.1: many rows of each small length, by exact sums.
func TestConvolutions(t *testing.T) {
	for _, c := range kinds() {
		for k := range 6 {
			for _, a := range someRows(1 << k) {
				for _, b := range someRows(1 << k) {
					must(t, c, a, b, sumsOf(c, a, b))
				}
			}
		}
	}
}

// P13.1: longer rows, by exact sums.
func TestConvolutionsOfLongerRows(t *testing.T) {
	for _, c := range kinds() {
		for k := 6; k <= 10; k++ {
			a, b := mixed(1<<k, 3), mixed(1<<k, 4)
			must(t, c, a, b, sumsOf(c, a, b))
		}
	}
}

// P13.1: each word meets each other one at its own place: rows with but one word each.
func TestConvolutionsOfPulses(t *testing.T) {
	for _, c := range kinds() {
		for k := range 5 {
			n := 1 << k
			for i := range n {
				for m := range n {
					a, b := pulse(n, i, 3), pulse(n, m, prime+5)
					must(t, c, a, b, sumsOf(c, a, b))
				}
			}
		}
	}
}

// P13.1: a row with itself, in one memory.
func TestConvolutionsOfARowWithItself(t *testing.T) {
	for _, c := range kinds() {
		for k := range 8 {
			a := mixed(1<<k, 5)
			before := slices.Clone(a)
			mustSame(t, c.name+" with itself", good(t, c, a, a), sumsOf(c, a, a))
			mustSame(t, "the row", a, before)
		}
	}
}

// P13.1: rows of noughts alone, of each length, one or both.
func TestConvolutionsOfNoughts(t *testing.T) {
	for _, c := range kinds() {
		for k := range 15 {
			n := 1 << k
			noughts := make([]uint64, n)
			must(t, c, noughts, noughts, noughts)
			must(t, c, noughts, mixed(n, 6), noughts)
			must(t, c, mixed(n, 6), alike(n, prime), noughts)
		}
	}
}

// P13.1: some words of long rows' answers are the defining sums, up to just the limit.
func TestConvolutionsOfLongRows(t *testing.T) {
	for _, c := range kinds() {
		for _, k := range []int{11, 12, 15, 18, 19} {
			n := 1 << k
			a, b := mixed(n, 7), mixed(n, 8)
			got := good(t, c, a, b)
			for _, j := range []int{0, 1, 2, n/2 - 1, n / 2, n/2 + 1, n - 2, n - 1, n / 3} {
				if want := wordOf(t, c, a, b, j); got[j] != want {
					t.Errorf("%s of %d words: %d at %d, want %d", c.name, n, got[j], j, want)
				}
			}
		}
	}
}

// P13.1: rows of just 2^19 words whose answers are plain to see, word by word.
func TestConvolutionsOfJustTheLimit(t *testing.T) {
	a := mixed(most, 9)
	const at = 12345
	forward := shiftOf(canonical(a), at)
	away := slices.Clone(forward)
	for i := range at { // what came round about is negative
		away[i] = gold.Neg(away[i])
	}
	wants := [][]uint64{forward, away, shiftOf(canonical(a), -at)}
	for i, c := range kinds() {
		must(t, c, a, pulse(most, at, prime+1), wants[i])
	}
	ones := alike(most, 1)
	var negacyclic []uint64
	for j := range uint64(most) { // j and 1 products, less all others
		negacyclic = append(negacyclic, (prime+2*j+2-most)%prime)
	}
	for i, want := range [][]uint64{alike(most, most), negacyclic, alike(most, most)} {
		must(t, kinds()[i], ones, ones, want)
	}
}

// P13.1: rows that aren't as long.
func TestConvolutionsOfUnlikeLengths(t *testing.T) {
	lengths := []int{0, 1, 2, 3, 4, 5, 8, 16, 1000, 1024}
	for _, n := range lengths {
		for _, m := range lengths {
			if n != m {
				mustRefuse(t, mixed(n, 1), mixed(m, 2), api.ErrOdd)
			}
		}
	}
	mustRefuse(t, nil, []uint64{1}, api.ErrOdd)
	mustRefuse(t, []uint64{1}, nil, api.ErrOdd)
	mustRefuse(t, []uint64{1, 0}, []uint64{1}, api.ErrOdd)
}

// P13.1: rows whose length is no power of two, none and nil among them.
func TestConvolutionsOfOtherLengths(t *testing.T) {
	mustRefuse(t, nil, nil, api.ErrLen)
	mustRefuse(t, nil, []uint64{}, api.ErrLen)
	mustRefuse(t, []uint64{}, []uint64{}, api.ErrLen)
	for _, n := range []int{3, 5, 6, 7, 9, 10, 12, 15, 17, 24, 31, 33, 100, 1000, 1023, 1025, most - 1} {
		mustRefuse(t, mixed(n, 1), mixed(n, 2), api.ErrLen)
	}
}

// P13.1: rows of more than 2^19 words.
func TestConvolutionsOfTooManyWords(t *testing.T) {
	for _, n := range []int{2 * most, 4 * most} {
		mustRefuse(t, make([]uint64, n), make([]uint64, n), api.ErrLarge)
	}
	mustRefuse(t, mixed(2*most, 1), mixed(2*most, 2), api.ErrLarge)
}

// R2: ErrOdd ahead of ErrLen, and ErrLen ahead of ErrLarge.
func TestOrderOfErrors(t *testing.T) {
	mustRefuse(t, mixed(3, 1), mixed(5, 2), api.ErrOdd)
	mustRefuse(t, mixed(3, 1), nil, api.ErrOdd)
	mustRefuse(t, make([]uint64, 2*most), make([]uint64, 4*most), api.ErrOdd)
	mustRefuse(t, make([]uint64, 2*most), make([]uint64, 1), api.ErrOdd)
	mustRefuse(t, make([]uint64, most+1), make([]uint64, most), api.ErrOdd)
	mustRefuse(t, make([]uint64, most+2), make([]uint64, most+1), api.ErrOdd)
	for _, n := range []int{most + 1, 2*most - 1, 2*most + 1, 3 * most} {
		mustRefuse(t, make([]uint64, n), make([]uint64, n), api.ErrLen)
	}
}

// P13.2: Product of none, of one and of two polynomials that are written out.
func TestProductAtEdges(t *testing.T) {
	mustProduct(t, []uint64{1})
	for _, p := range zeros {
		mustProduct(t, nil, p)
		mustProduct(t, nil, p, []uint64{1, 2})
		mustProduct(t, nil, mixed(300, 1), p)
		mustProduct(t, nil, []uint64{1}, p, mixed(300, 1), []uint64{prime + 1})
		for _, q := range zeros {
			mustProduct(t, nil, p, q)
		}
	}
	mustProduct(t, []uint64{1}, []uint64{1})
	mustProduct(t, []uint64{1}, []uint64{prime + 1})
	mustProduct(t, []uint64{1<<32 - 2}, []uint64{top, prime})
	mustProduct(t, []uint64{0, 2}, []uint64{prime, prime + 2, 0, prime})
	mustProduct(t, []uint64{6}, []uint64{2}, []uint64{3})
	mustProduct(t, []uint64{1}, []uint64{prime - 1, 0}, []uint64{prime - 1, prime})
	mustProduct(t, []uint64{prime - 1, 0, 1}, []uint64{1, 1}, []uint64{prime - 1, 1})
	mustProduct(t, []uint64{1, 2, 3, 4, 2}, []uint64{1, 1}, []uint64{1, 1}, []uint64{1, 0, 2})
	mustProduct(t, []uint64{2, prime - 3, 1}, []uint64{prime - 1, 1, 0}, []uint64{prime - 2, prime + 1})
	mustProduct(t, pulse(6, 5, 1), []uint64{0, 1}, []uint64{0, 1}, []uint64{0, 0, 0, 1})
	mustProduct(t, pulse(400, 399, 6), pulse(200, 199, 2), pulse(201, 200, 3))
}

// P13.2: one polynomial is trimmed, and its words are what they leave.
func TestProductOfOne(t *testing.T) {
	for _, n := range []int{1, 2, 3, 4, 63, 64, 65, 128, 129, 1000, 1024} {
		p := mixed(n, 10)
		mustProduct(t, canonical(p), p)
		mustProduct(t, canonical(p), padded(p, 1))
		mustProduct(t, canonical(p), padded(p, n))
	}
	for _, w := range someWords {
		mustProduct(t, productOf([]uint64{w}, []uint64{1}), []uint64{w})
		mustProduct(t, productOf([]uint64{w, w}, []uint64{1}), []uint64{w, w, prime})
	}
}

// P13.2: two polynomials of like and unlike lengths, by exact sums: trimmed and not, and each way about.
func TestProductOfTwo(t *testing.T) {
	lengths := []int{1, 2, 3, 4, 5, 8, 31, 32, 33, 63, 64, 65, 66, 100, 127, 128, 129, 130, 255, 256, 257, 300}
	for _, n := range lengths {
		for _, m := range lengths {
			p, q := mixed(n, 11), mixed(m, 12)
			want := productOf(p, q)
			mustProduct(t, want, p, q)
			mustProduct(t, want, padded(p, 3), padded(q, 70))
		}
	}
}

// P13.2: each pair of edges of the field, in short polynomials and in longer ones.
func TestProductOfEdgeWords(t *testing.T) {
	for _, v := range someWords {
		for _, w := range someWords {
			mustProduct(t, productOf([]uint64{v}, []uint64{w}), []uint64{v}, []uint64{w})
			mustProduct(t, productOf([]uint64{1, v}, []uint64{w, w}), []uint64{1, v}, []uint64{w, w})
			long := alike(200, v)
			mustProduct(t, productOf(long, []uint64{w, 1}), long, []uint64{w, 1})
		}
	}
}

// P13.2: three polynomials and more, by exact sums.
func TestProductOfMany(t *testing.T) {
	var l [][]uint64
	for i, n := range []int{2, 1, 5, 1, 90, 3, 64, 2, 17, 70} {
		l = append(l, padded(mixed(n, uint64(13+i)), i%3))
		mustProduct(t, productOfAll(l...), l...)
	}
	for i := range l {
		withNone := slices.Insert(slices.Clone(l), i, []uint64(nil))
		mustProduct(t, nil, withNone...)
	}
	for n := range 40 {
		mustProduct(t, productOfAll(slices.Repeat([][]uint64{{prime - 1, 2}}, n)...), slices.Repeat([][]uint64{{prime - 1, 2}}, n)...)
	}
}

// P13.2: as many factors as there is room for at the most: 2^18 of two words, 2^19 of one.
func TestProductOfVeryMany(t *testing.T) {
	words := mixed(most, 14)
	var ones [][]uint64
	for i := range words {
		if words[i]%prime == 0 {
			words[i] = 1
		}
		ones = append(ones, words[i:i+1])
	}
	mustSame(t, "Product of single words", goodProduct(t, ones...), []uint64{gold.Product(words...)})
	if got, e := conv.Product(append(ones, []uint64{1})...); len(got) != 0 || e != api.ErrLarge {
		t.Errorf("Product of one word more: %d words, %d", len(got), e)
	}
	mustSame(t, "Product of single words and none", goodProduct(t, append(ones[1:], nil)...), nil)

	var lines [][]uint64
	for i := range most / 2 {
		lines = append(lines, words[2*i:2*i+2])
	}
	got := goodProduct(t, lines...)
	if len(got) != most/2+1 {
		t.Fatalf("Product of %d lines: %d words", len(lines), len(got))
	}
	for _, x := range []uint64{0, 1, 2, prime - 1, top, words[77]} {
		want := uint64(1)
		for _, p := range lines {
			want = gold.Mul(want, poly.At(p, x))
		}
		if v := poly.At(got, x); v != want {
			t.Errorf("Product of %d lines: %d at %d, want %d", len(lines), v, x, want)
		}
	}
}

// P13.2: the product of all x - a is layer 7's polynomial of roots.
func TestProductOfRoots(t *testing.T) {
	roots := mixed(1000, 15)
	var lines [][]uint64
	for _, a := range roots {
		lines = append(lines, []uint64{gold.Neg(a), 1})
	}
	want, e := poly.FromRoots(roots...)
	if e != api.OK {
		t.Fatalf("FromRoots: %d", e)
	}
	mustProduct(t, want, lines...)
}

// P13.2: it answers what layer 7's product does, and a product's value is the values' product.
func TestProductGoesByLayer7(t *testing.T) {
	p, q := mixed(3000, 16), mixed(4096, 17)
	want, e := poly.Mul(p, q)
	if e != api.OK {
		t.Fatalf("Mul: %d", e)
	}
	mustProduct(t, want, p, q)
	r := mixed(5000, 18)
	all := goodProduct(t, p, q, r)
	if len(all) != 3000+4096+5000-2 {
		t.Errorf("Product: %d words", len(all))
	}
	for _, x := range someWords {
		if v, w := poly.At(all, x), gold.Product(poly.At(p, x), poly.At(q, x), poly.At(r, x)); v != w {
			t.Errorf("Product: %d at %d, want %d", v, x, w)
		}
	}
}

// triangle is the product of two polynomials of n and m words that are all 1.
func triangle(n, m int) []uint64 {
	var l []uint64
	for j := range n + m - 1 {
		l = append(l, uint64(min(j+1, n, m, n+m-1-j)))
	}
	return l
}

// P13.2: polynomials whose lengths are together just 2^19, and one more.
func TestProductAtTheLimit(t *testing.T) {
	for _, n := range []int{most / 2, most/2 - 1, 1, 2, 1000, most - 1} {
		p, q := alike(n, prime+1), alike(most-n, 1)
		mustProduct(t, triangle(n, most-n), p, q)
		mustNotProduct(t, p, q, []uint64{1})
		mustNotProduct(t, append(p, 0), q)
		mustNotProduct(t, p, append(q, prime))
	}
	one := mixed(most, 19)
	mustProduct(t, canonical(one), one)
	mustProduct(t, nil, nil, one)
	mustNotProduct(t, one, []uint64{1})
	mustProduct(t, nil, make([]uint64, most))
}

// P13.2: too many words in one polynomial, in two, in many; words behind the degree count, and rows that are noughts alone.
func TestProductOfTooManyWords(t *testing.T) {
	for _, n := range []int{most + 1, most + 2, 2 * most, 4 * most} {
		mustNotProduct(t, make([]uint64, n))
		mustNotProduct(t, pulse(n, 0, 1))
		mustNotProduct(t, []uint64{}, make([]uint64, n), nil)
	}
	mustNotProduct(t, mixed(most, 20), mixed(most, 21))
	mustNotProduct(t, pulse(most/2, 0, 1), pulse(most/2+1, 0, 1))
	mustNotProduct(t, slices.Repeat([][]uint64{{1, 1, 1}}, most/3+1)...)
	long := make([]uint64, 1<<20)
	if got, e := conv.Product(slices.Repeat([][]uint64{long}, 1<<12)...); len(got) != 0 || e != api.ErrLarge { // 2^32 words together
		t.Errorf("Product of 2^12 polynomials of 2^20 words: %d words, %d", len(got), e)
	}
}

// P13.2: a product of many polynomials that are nil costs nothing and is nought.
func TestProductOfManyNone(t *testing.T) {
	mustProduct(t, nil, make([][]uint64, 1<<20)...)
	mustProduct(t, nil, append(make([][]uint64, 1000), mixed(most, 1))...)
}

// P13.2: Power that is written out.
func TestPowerAtEdges(t *testing.T) {
	mustPower(t, []uint64{1, 1, 0}, 4, []uint64{1, 4, 6, 4, 1})
	mustPower(t, []uint64{1, 1}, 0, []uint64{1})
	mustPower(t, []uint64{1, 1}, 1, []uint64{1, 1})
	mustPower(t, []uint64{1, 1}, 2, []uint64{1, 2, 1})
	mustPower(t, []uint64{1, 1}, 3, []uint64{1, 3, 3, 1})
	mustPower(t, []uint64{prime - 1, 1}, 3, []uint64{prime - 1, 3, prime - 3, 1})
	mustPower(t, []uint64{prime + 1, prime + 2, prime}, 2, []uint64{1, 4, 4})
	mustPower(t, []uint64{0, 1}, 5, []uint64{0, 0, 0, 0, 0, 1})
	mustPower(t, []uint64{0, 0, 2, 0}, 3, []uint64{0, 0, 0, 0, 0, 0, 8})
	mustPower(t, []uint64{prime - 1}, 2, []uint64{1})
	mustPower(t, []uint64{prime - 1}, 3, []uint64{prime - 1})
	mustPower(t, []uint64{1 << 32}, 2, []uint64{1<<32 - 1})
	mustPower(t, []uint64{1 << 48}, 4, []uint64{1})
}

// P13.2: the power 0 is 1, of the zero polynomial and of rows that are too long for others, too.
func TestPowerOfNought(t *testing.T) {
	for _, p := range zeros {
		mustPower(t, p, 0, []uint64{1})
		for _, n := range []int{1, 2, 3, 100, 1000} {
			mustPower(t, p, n, nil)
		}
	}
	for _, p := range [][]uint64{{1}, {prime}, {top}, mixed(1000, 22), mixed(most, 22), make([]uint64, most+1), mixed(4*most, 22)} {
		mustPower(t, p, 0, []uint64{1})
	}
	for _, n := range []int{most, most + 1, 1 << 32, 1<<32 + 1, 1 << 62, 1<<62 + 1, math.MaxInt - 1, math.MaxInt} { // no words are together no words, however often
		mustPower(t, nil, n, nil)
		mustPower(t, []uint64{}, n, nil)
	}
}

// P13.2: powers of polynomials of many lengths, by exact sums; words behind the degree change nothing but what counts to the limit.
func TestPower(t *testing.T) {
	for _, words := range []int{1, 2, 3, 4, 5, 8, 9, 17, 33, 40} {
		p := mixed(words, 23)
		want := []uint64{1}
		for n := range 14 {
			mustPower(t, p, n, want)
			mustPower(t, padded(p, 1), n, want)
			mustPower(t, padded(p, words+2), n, want)
			want = productOf(want, p)
		}
	}
}

// P13.2: powers of single words, up to just the limit.
func TestPowerOfOneWord(t *testing.T) {
	for _, w := range someWords {
		for _, n := range []int{1, 2, 3, 10, 63, 64, 1000, 1 << 16, most - 1, most} {
			want := new(big.Int).Exp(bigOf(w), big.NewInt(int64(n)), bigOf(prime)).Uint64()
			mustPower(t, []uint64{w}, n, productOf([]uint64{want}, []uint64{1}))
		}
	}
}

// P13.2: a power is the product of as many.
func TestPowerIsAProduct(t *testing.T) {
	for _, x := range []struct{ words, n int }{{2, 1000}, {1000, 2}, {1000, 3}, {100, 100}, {7, 4681}, {3, 65536}, {4097, 5}} {
		p := mixed(x.words, 24)
		mustPower(t, p, x.n, goodProduct(t, slices.Repeat([][]uint64{p}, x.n)...))
	}
}

// P13.2: the powers of 1 + x up to just the limit: each word, times its place, is the one ahead, times what it lacks of n.
func TestPowerAtTheLimit(t *testing.T) {
	const n = most / 2
	got := goodPower(t, []uint64{1, 1}, n)
	if len(got) != n+1 || got[0] != 1 || got[n] != 1 {
		t.Fatalf("Power: %d words", len(got))
	}
	for i := range uint64(n) {
		if gold.Mul(got[i+1], i+1) != gold.Mul(got[i], n-i) {
			t.Fatalf("Power: %d at %d behind %d", got[i+1], i+1, got[i])
		}
	}
	for _, words := range []int{1, 2, 4, 1 << 10, 1 << 18, most} { // times n just the limit
		p := pulse(words, words-1, 3)
		want := gold.Pow(3, uint64(most/words))
		mustPower(t, p, most/words, pulse((words-1)*(most/words)+1, (words-1)*(most/words), want))
		mustNotPower(t, p, most/words+1, api.ErrLarge)
		mustNotPower(t, append(p, 0), most/words, api.ErrLarge)
	}
	p := mixed(most, 25)
	mustPower(t, p, 1, canonical(p))
	mustPower(t, alike(most/2, 1), 2, triangle(most/2, most/2))
	for _, words := range []int{3, 5, 7, 1000} { // the limit is no multiple
		if p := alike(words, 2); len(goodPower(t, p, most/words)) != (words-1)*(most/words)+1 {
			t.Errorf("Power of %d words, %d: another length", words, most/words)
		}
		mustNotPower(t, alike(words, 2), most/words+1, api.ErrLarge)
	}
}

// P13.2: length times n of just one above the limit: 3 times 174,763 is 2^19 + 1; and of much more, where the product has more than 64 bits (R7).
func TestPowerTooLarge(t *testing.T) {
	for _, x := range []struct{ words, n int }{
		{1, most + 1}, {3, 174763}, {174763, 3}, {most + 1, 1}, {2, most/2 + 1}, {2 * most, 1}, {most, 2}, {most, 3},
		{1, 1 << 32}, {1, 1<<32 + 1}, {1, 1 << 62}, {1, math.MaxInt}, {2, 1 << 62}, {2, 1<<62 + 1}, {2, math.MaxInt}, {3, math.MaxInt}, {3, 6148914691236517206},
		{4, 1 << 62}, {4, 1<<62 + 1}, {5, 3689348814741910324}, {8, 1 << 61}, {8, 1<<61 + 1}, {8, math.MaxInt}, {1 << 10, 1 << 54}, {1 << 10, 1<<54 + 1}, {most, 1 << 45}, {most, 1<<45 + 1}, {most, math.MaxInt}, {2 * most, math.MaxInt},
	} {
		mustNotPower(t, mixed(x.words, 26), x.n, api.ErrLarge)
		mustNotPower(t, make([]uint64, x.words), x.n, api.ErrLarge) // words of the zero polynomial count, too
	}
}

// P13.2 and R2: n below 0, ahead of what is too large.
func TestPowerBelowNought(t *testing.T) {
	for _, n := range []int{-1, -2, -3, -most, -most - 1, -1 << 32, -1 << 62, math.MinInt + 1, math.MinInt} {
		for _, p := range [][]uint64{nil, {}, {0}, {1}, {1, 1}, mixed(100, 1), make([]uint64, most), make([]uint64, most+1), make([]uint64, 2*most)} {
			mustNotPower(t, p, n, api.ErrArg)
		}
	}
}

// shifts are numbers that a row of n words is turned about by: small ones, those about its length, and edges of an int.
func shifts(n int) []int {
	return []int{0, 1, 2, 3, -1, -2, -3, 4, 5, 7, 8, n, -n, n - 1, n + 1, -n - 1, 1 - n, 2 * n, -2 * n, 2*n + 1, -2*n - 1, n * n, 1000, -1000, 1 << 32, 1<<32 + 1, -1 << 32, 1 << 62, -1 << 62, math.MaxInt, math.MaxInt - 1, math.MinInt, math.MinInt + 1}
}

// P13.3: rows of many lengths, turned about by any number, words as they are.
func TestShift(t *testing.T) {
	for _, n := range []int{0, 1, 2, 3, 4, 5, 6, 7, 8, 9, 10, 16, 31, 64, 100, 1000} {
		a := mixed(n, 27)
		for _, by := range shifts(n) {
			mustShift(t, a, by, shiftOf(a, by))
		}
	}
	for _, by := range shifts(0) {
		mustShift(t, nil, by, nil)
		mustShift(t, []uint64{}, by, nil)
	}
}

func TestShiftAtEdges(t *testing.T) {
	a := []uint64{1, 2, 3, 4}
	for _, x := range []struct {
		a    []uint64
		n    int
		want []uint64
	}{
		{a, 0, a}, {a, 4, a}, {a, -4, a}, {a, 1, []uint64{4, 1, 2, 3}}, {a, -1, []uint64{2, 3, 4, 1}}, {a, 3, []uint64{2, 3, 4, 1}}, {a, 5, []uint64{4, 1, 2, 3}}, {a, -5, []uint64{2, 3, 4, 1}},
		{a, math.MaxInt, []uint64{2, 3, 4, 1}}, {a, math.MinInt, a}, {a, math.MinInt + 1, []uint64{4, 1, 2, 3}},
		{a[:3], 1, []uint64{3, 1, 2}}, {a[:3], -1, []uint64{2, 3, 1}}, {a[:3], math.MinInt, []uint64{3, 1, 2}}, {a[:3], math.MaxInt, []uint64{3, 1, 2}},
		{a[:1], math.MinInt, a[:1]}, {a[:1], 17, a[:1]}, {[]uint64{top, prime}, 1, []uint64{prime, top}},
	} {
		mustShift(t, x.a, x.n, x.want)
	}
}

// P13.3: rows that no convolution takes are turned about, too.
func TestShiftOfLongRows(t *testing.T) {
	a := mixed(3*most, 28)
	mustShift(t, a, most, slices.Concat(a[2*most:], a[:2*most]))
	mustShift(t, a, -most, slices.Concat(a[most:], a[:most]))
}

// P13.3: one turn and another one are the turn by both.
func TestShiftsTogether(t *testing.T) {
	for _, n := range []int{1, 2, 3, 7, 8, 12} {
		a := mixed(n, 29)
		for i := -2 * n; i <= 2*n; i++ {
			for j := -2 * n; j <= 2*n; j++ {
				mustSame(t, "Shift of Shift", conv.Shift(conv.Shift(a, i), j), conv.Shift(a, i+j))
			}
		}
	}
}

// exponents are those that the laws of P13.4 are tried with.
var exponents = []int{0, 1, 2, 3, 4, 5, 6, 7, 10, 13, 16}

// P13.4: convolutions don't hang on the order of both; a correlation the other way about is read backward.
func TestOrderOfBoth(t *testing.T) {
	for _, k := range exponents {
		for i, c := range kinds() {
			a, b := mixed(1<<k, 30), mixed(1<<k, 31)
			there, back := good(t, c, a, b), good(t, c, b, a)
			if i == 2 {
				slices.Reverse(back[1:])
			}
			mustSame(t, c.name+" the other way about", back, there)
		}
	}
	l := [][]uint64{mixed(300, 32), mixed(1, 33), {1, 1}, mixed(77, 34)}
	want := goodProduct(t, l...)
	for range l {
		l = append(l[1:], l[0])
		mustSame(t, "Product in another order", goodProduct(t, l...), want)
		mustSame(t, "Product in another order", goodProduct(t, l[1], l[0], l[2], l[3]), want)
	}
}

// P13.4: a convolution with the row 1, 0, 0, .. is the row, canonical.
func TestConvolutionsWithOne(t *testing.T) {
	for _, c := range kinds() {
		for _, k := range append([]int{19}, exponents...) {
			a := mixed(1<<k, 35)
			mustSame(t, c.name+" with 1, 0, 0, ..", good(t, c, a, pulse(1<<k, 0, 1)), canonical(a))
			mustSame(t, c.name+" with 1, 0, 0, ..", good(t, c, a, padded([]uint64{prime + 1}, 1<<k-1)), canonical(a))
			if c.name != "Correlate" {
				mustSame(t, c.name+" of 1, 0, 0, ..", good(t, c, pulse(1<<k, 0, 1), a), canonical(a))
			}
		}
	}
}

// P13.4: a shifted row's convolution is the shifted convolution; a negacyclic one's words that come round about are negative.
func TestConvolutionsOfShiftedRows(t *testing.T) {
	for _, k := range exponents {
		n := 1 << k
		a, b := mixed(n, 36), mixed(n, 37)
		for i, c := range kinds() {
			want := good(t, c, a, b)
			for _, by := range []int{0, 1, -1, 2, n / 2, n - 1, n, 3*n + 1, math.MinInt, math.MaxInt} {
				shifted := conv.Shift(a, by)
				at := by & (n - 1) // how many words came round about
				if i == 1 {
					for j := range at {
						shifted[j] = gold.Neg(shifted[j])
					}
				}
				turned := conv.Shift(want, by)
				if i == 1 {
					for j := range at {
						turned[j] = gold.Neg(turned[j])
					}
				}
				mustSame(t, c.name+" of a shifted row", good(t, c, shifted, b), turned)
			}
		}
		cyclic, correlate := kinds()[0], kinds()[2]
		mustSame(t, "Cyclic with a shifted row", good(t, cyclic, a, conv.Shift(b, 1)), conv.Shift(good(t, cyclic, a, b), 1))
		mustSame(t, "Correlate with a shifted row", good(t, correlate, a, conv.Shift(b, 1)), conv.Shift(good(t, correlate, a, b), -1))
	}
}

// P13.1 and P13.2: cyclic and negacyclic convolutions are what a product leaves, its words beyond the length added, and taken away.
func TestConvolutionsAndProductsGoTogether(t *testing.T) {
	for _, k := range exponents {
		n := 1 << k
		a, b := mixed(n, 38), mixed(n, 39)
		whole := append(goodProduct(t, a, b), make([]uint64, 2*n)...)
		added, taken := make([]uint64, n), make([]uint64, n)
		for i := range n {
			added[i], taken[i] = gold.Add(whole[i], whole[i+n]), gold.Sub(whole[i], whole[i+n])
		}
		mustSame(t, "Cyclic", good(t, kinds()[0], a, b), added)
		mustSame(t, "Negacyclic", good(t, kinds()[1], a, b), taken)
	}
}

// P13.1: convolutions share out over sums.
func TestConvolutionsShareOut(t *testing.T) {
	for _, c := range kinds() {
		for _, k := range exponents {
			a, b, d := mixed(1<<k, 40), mixed(1<<k, 41), mixed(1<<k, 42)
			both, want := make([]uint64, 1<<k), good(t, c, a, d)
			for i, w := range good(t, c, b, d) {
				both[i], want[i] = gold.Add(a[i], b[i]), gold.Add(want[i], w)
			}
			mustSame(t, c.name+" of a sum", good(t, c, both, d), want)
		}
	}
}

// R8: calls between change no later answer: nothing is kept from one to the next.
func TestCallsSideBySide(t *testing.T) {
	want := map[string][]uint64{}
	for round := range 3 {
		for _, k := range []int{3, 0, 7, 5, 3, 7} {
			for _, c := range kinds() {
				got := good(t, c, mixed(1<<k, 43), mixed(1<<k, 44))
				name := c.name + string(rune('0'+k))
				if round == 0 {
					want[name] = sumsOf(c, mixed(1<<k, 43), mixed(1<<k, 44))
				}
				mustSame(t, c.name, got, want[name])
			}
			mustSame(t, "Power", goodPower(t, []uint64{1, 1}, 2), []uint64{1, 2, 1})
			mustSame(t, "Product", goodProduct(t, []uint64{1, 1}, []uint64{prime - 1, 1}), []uint64{prime - 1, 0, 1})
			conv.Cyclic(make([]uint64, 3), nil)
			conv.Power([]uint64{1}, -1)
		}
	}
}

// P1: calls end and none panics, whatever rows and numbers come together.
func TestAnyArgument(t *testing.T) {
	rows := [][]uint64{nil, {}, {0}, {1}, {top}, {prime, prime}, mixed(2, 1), mixed(3, 1), mixed(4, 1), mixed(1000, 1), mixed(1024, 1), make([]uint64, 1024), make([]uint64, most+1), make([]uint64, 2*most)}
	for _, a := range rows {
		for _, n := range append(shifts(len(a)), -4, 6, most, most+1) {
			conv.Shift(a, n)
			conv.Power(a, n)
		}
		for _, b := range rows {
			for _, c := range kinds() {
				c.call(a, b)
			}
			conv.Product(a, b)
			conv.Product(a, b, a)
			conv.Product(b, nil, a, []uint64{1}, b)
		}
	}
	conv.Product(rows...)
}
