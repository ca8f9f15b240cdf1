package rows_test

import (
	"math"
	"math/big"
	"slices"
	"testing"

	"abacist/api"
	"abacist/gold"
	"abacist/kern2"
	"abacist/poly"
	"abacist/rows"
	"abacist/shape"
	"abacist/twid"
)

const (
	prime = api.P
	top   = uint64(math.MaxUint64)
	most  = 1 << 20 // how many words a view, a row and a column have at the most
	unit  = uint64(1 << 48)
)

// badDirections are numbers that are no direction; some of them leave one, if but their lowest bits are looked at.
var badDirections = []int{-1, -2, -3, 2, 3, 4, 5, 256, 257, 1 << 32, 1<<32 + 1, 1 << 62, math.MaxInt, math.MinInt, math.MinInt + 1}

var directions = []int{api.Forward, api.Inverse}

// numbers are those that a view's parts and a length are tried with: small ones, edges of what a view may have, and edges of an int.
var numbers = []int{0, 1, 2, 3, 4, 5, 6, 7, 8, 9, 100, most - 1, most, most + 1, 2 * most, 1 << 32, 1<<32 + 1, 1 << 43, 1 << 44, 1 << 61, 1 << 62, 1<<62 + 1, math.MaxInt - 1, math.MaxInt, -1, -2, -3, -8, -most, -1 << 32, -1 << 62, math.MinInt + 1, math.MinInt}

// shapeOf is a shape of 2^a rows and 2^b columns.
func shapeOf(a, b int) api.Shape {
	return api.Shape{Rows: 1 << a, Cols: 1 << b}
}

// shapesOf are the shapes of 2^k words: all of them, from one row to one column.
func shapesOf(k int) []api.Shape {
	var all []api.Shape
	for a := range k + 1 {
		all = append(all, shapeOf(a, k-a))
	}
	return all
}

// wrongShapes are shapes that aren't right; some have as many words as a short row, if but the product is looked at.
func wrongShapes() []api.Shape {
	return []api.Shape{
		{}, {Rows: 1}, {Cols: 1}, {Rows: 0, Cols: 8}, {Rows: 8, Cols: 0}, {Rows: 3, Cols: 1}, {Rows: 1, Cols: 3}, {Rows: 2, Cols: 3}, {Rows: 3, Cols: 3}, {Rows: 6, Cols: 2},
		{Rows: -1, Cols: -1}, {Rows: -2, Cols: -4}, {Rows: -1, Cols: 1}, {Rows: 2, Cols: -2}, {Rows: math.MinInt, Cols: 2}, {Rows: 2, Cols: math.MinInt}, {Rows: math.MinInt, Cols: math.MinInt},
		shapeOf(1, 32), shapeOf(32, 1), shapeOf(32, 32), shapeOf(2, 62), shapeOf(62, 62), {Rows: math.MaxInt, Cols: math.MaxInt}, {Rows: math.MaxInt, Cols: 1}, {Rows: 1, Cols: math.MaxInt},
	}
}

// mixed are n words that a fixed rule mixes, some of them from P on.
func mixed(n int, seed uint64) []uint64 {
	l := make([]uint64, n)
	w := seed
	for i := range l {
		w = w*6364136223846793005 + 1442695040888963407
		l[i] = w ^ w>>29
		if i%5 == 3 {
			l[i] = prime + w>>33
		}
	}
	return l
}

// alike are n words that are the same.
func alike(n int, w uint64) []uint64 {
	return slices.Repeat([]uint64{w}, n)
}

// pulse is n words of which all are 0 but the one at a place.
func pulse(n, at int, w uint64) []uint64 {
	l := make([]uint64, n)
	l[at] = w
	return l
}

// someRows are rows of n words.
func someRows(n int) [][]uint64 {
	return [][]uint64{make([]uint64, n), alike(n, 1), alike(n, prime), alike(n, top), pulse(n, 0, 1), pulse(n, n-1, prime-1), pulse(n, n/2, top), mixed(n, 1), mixed(n, 2)}
}

// canonical is what each word of a row leaves.
func canonical(l []uint64) []uint64 {
	out := slices.Clone(l)
	for i := range out {
		out[i] %= prime
	}
	return out
}

func bigOf(a uint64) *big.Int {
	return new(big.Int).SetUint64(a)
}

// powerOf is a power of the root of order n, which is 7 to the power of (P - 1) / n, or of its inverse, by exact numbers.
func powerOf(n, dir, power int) *big.Int {
	w := new(big.Int).Exp(big.NewInt(7), bigOf((prime-1)/uint64(n)), bigOf(prime))
	if dir == api.Inverse {
		w.ModInverse(w, bigOf(prime))
	}
	return w.Exp(w, big.NewInt(int64(power)), bigOf(prime))
}

// transformOf is the transform of a row by exact sums, as the document says it: the inverse one is divided by the length.
func transformOf(l []uint64, dir int) []uint64 {
	var powers []*big.Int // of the root: those from the length on come again
	for i := range l {
		powers = append(powers, powerOf(len(l), dir, i))
	}
	share := big.NewInt(1)
	if dir == api.Inverse {
		share.ModInverse(big.NewInt(int64(len(l))), bigOf(prime))
	}
	out := make([]uint64, len(l))
	term := new(big.Int)
	for j := range l {
		sum := new(big.Int)
		for i, w := range l {
			sum.Add(sum, term.Mul(powers[i*j%len(l)], term.SetUint64(w)))
		}
		out[j] = sum.Mul(sum, share).Mod(sum, bigOf(prime)).Uint64()
	}
	return out
}

// goodOf tells whether a view is right as the document says it, by exact numbers.
func goodOf(v api.View, n int) bool {
	if v.N < 0 || v.N > 1<<20 || v.Step < 1 || v.Off < 0 {
		return false
	}
	last := new(big.Int).Mul(big.NewInt(int64(v.N)-1), big.NewInt(int64(v.Step)))
	last.Add(last, big.NewInt(int64(v.Off)))
	return v.N == 0 || last.Cmp(big.NewInt(int64(n))) < 0
}

// placesOf are a view's places, each a step behind the one ahead; the view is right.
func placesOf(v api.View) []int {
	var all []int
	at := v.Off
	for range v.N {
		all = append(all, at)
		at += v.Step
	}
	return all
}

// gathered are the words at places.
func gathered(l []uint64, places []int) []uint64 {
	var w []uint64
	for _, at := range places {
		w = append(w, l[at])
	}
	return w
}

// put writes words at places.
func put(l []uint64, places []int, w []uint64) {
	for i, at := range places {
		l[at] = w[i]
	}
}

// scattered is a row with other words at places.
func scattered(l []uint64, places []int, w []uint64) []uint64 {
	out := slices.Clone(l)
	put(out, places, w)
	return out
}

// rightViews are views that are right for a length: all of small lengths, but for steps that none but one place stands.
func rightViews(n int) []api.View {
	var all []api.View
	for off := range n + 2 {
		for step := 1; step <= n+1; step++ {
			for count := range n + 2 {
				if v := (api.View{Off: off, Step: step, N: count}); goodOf(v, n) {
					all = append(all, v)
				}
			}
		}
	}
	return append(all, api.View{Off: n - 1, Step: math.MaxInt, N: 1}, api.View{Off: 0, Step: 1 << 62, N: 1}, api.View{Off: math.MaxInt, Step: math.MaxInt})
}

// wrongViews are views that aren't right for a length of n, n from 1 to 2^20.
func wrongViews(n int) []api.View {
	return []api.View{
		{}, {Off: 0, Step: 0, N: 1}, {Off: 0, Step: 0, N: 0}, {Off: 0, Step: -1, N: 0}, {Off: 0, Step: -1, N: 1}, {Off: n - 1, Step: -1, N: 2}, {Off: 0, Step: math.MinInt, N: 1},
		{Off: -1, Step: 1, N: 0}, {Off: -1, Step: 1, N: 1}, {Off: -1, Step: 2, N: 2}, {Off: -n, Step: 1, N: 1}, {Off: math.MinInt, Step: 1, N: 1}, {Off: math.MinInt, Step: math.MaxInt, N: 2},
		{Off: n, Step: 1, N: 1}, {Off: n + 1, Step: 1, N: 1}, {Off: math.MaxInt, Step: 1, N: 1}, {Off: math.MaxInt, Step: 1, N: 2}, {Off: math.MaxInt, Step: math.MaxInt, N: 4},
		{Off: 0, Step: 1, N: n + 1}, {Off: 1, Step: 1, N: n}, {Off: n - 1, Step: 1, N: 2}, {Off: 0, Step: n, N: 2}, {Off: 0, Step: 2, N: n + 1}, {Off: n - 1, Step: math.MaxInt, N: 2},
		{Off: 0, Step: 1, N: -1}, {Off: 0, Step: 1, N: -2}, {Off: 0, Step: 1, N: math.MinInt}, {Off: 1, Step: 1, N: math.MaxInt}, {Off: 0, Step: 1, N: most + 1}, {Off: 0, Step: 1, N: 2 * most},
		{Off: 1, Step: 1 << 62, N: 3}, {Off: 0, Step: 1 << 62, N: 5}, {Off: 0, Step: 1 << 62, N: 2}, {Off: 0, Step: 1 << 44, N: most}, {Off: 0, Step: 1<<44 + 1, N: 1<<20 - 1}, {Off: 0, Step: math.MaxInt, N: 3},
	}
}

// mustSame holds words against those that are asked for, and tells the first place where they differ.
func mustSame(t *testing.T, name string, got, want []uint64) {
	t.Helper()
	if len(got) != len(want) {
		t.Errorf("%s: %d words, want %d", name, len(got), len(want))
		return
	}
	for i, w := range want {
		if got[i] != w {
			t.Errorf("%s of %d words: %d at %d, want %d", name, len(want), got[i], i, w)
			return
		}
	}
}

// mustWrite holds what a call writes into a row against the words that are asked for; what lies beside the row stays (R4).
func mustWrite(t *testing.T, name string, call func([]uint64) api.Errno, l, want []uint64) {
	t.Helper()
	beside := []uint64{top, 5, prime, 6}
	memory := slices.Concat(beside, l, beside)
	n := len(beside)
	if e := call(memory[n : n+len(l)]); e != api.OK {
		t.Errorf("%s of %d words: %d", name, len(l), e)
	}
	mustSame(t, name, memory[n:n+len(l)], want)
	if !slices.Equal(memory[:n], beside) || !slices.Equal(memory[n+len(l):], beside) {
		t.Errorf("%s of %d words: what lies beside the row became %v and %v", name, len(l), memory[:n], memory[n+len(l):])
	}
}

// mustRefuse holds a call's error against the one that is asked for; nothing is written (R5), and what lies behind the row isn't taken for a part of it (R4).
func mustRefuse(t *testing.T, name string, call func([]uint64) api.Errno, l []uint64, want api.Errno) {
	t.Helper()
	memory := append(slices.Clone(l), 1, 2, 3, top, 4, 5, 6, 7)
	before := slices.Clone(memory)
	if e := call(memory[:len(l)]); e != want {
		t.Errorf("%s of %d words: %d, want %d", name, len(l), e, want)
	}
	if !slices.Equal(memory, before) {
		t.Errorf("%s of %d words: it has written beside an error", name, len(l))
	}
}

func scatter(v api.View, w []uint64) func([]uint64) api.Errno {
	return func(l []uint64) api.Errno { return rows.Scatter(l, v, w) }
}

func run(v api.View, dir int) func([]uint64) api.Errno {
	return func(l []uint64) api.Errno { return rows.Run(l, v, dir) }
}

// inShape is one of the three calls that a shape and a direction go with.
type inShape struct {
	name string
	call func([]uint64, api.Shape, int) api.Errno
}

func allInShape() []inShape {
	return []inShape{{"Rows", rows.Rows}, {"Cols", rows.Cols}, {"Six", rows.Six}}
}

func (c inShape) of(s api.Shape, dir int) func([]uint64) api.Errno {
	return func(l []uint64) api.Errno { return c.call(l, s, dir) }
}

func mustInShape(t *testing.T, c inShape, l []uint64, s api.Shape, dir int, want []uint64) {
	t.Helper()
	mustWrite(t, c.name, c.of(s, dir), l, want)
	if t.Failed() {
		t.Fatalf("%s: %v, %d", c.name, s, dir)
	}
}

func mustRefuseInShape(t *testing.T, c inShape, l []uint64, s api.Shape, dir int, want api.Errno) {
	t.Helper()
	mustRefuse(t, c.name, c.of(s, dir), l, want)
	if t.Failed() {
		t.Fatalf("%s: %v, %d", c.name, s, dir)
	}
}

// mustGood holds Good against what the document says, by exact numbers.
func mustGood(t *testing.T, v api.View, n int, want bool) {
	t.Helper()
	if got := rows.Good(v, n); got != want {
		t.Errorf("Good(%v, %d) = %v, want %v", v, n, got, want)
	}
}

// P11.1: Good of views of small numbers, of all lengths that they are right for and of others, by exact numbers.
func TestGood(t *testing.T) {
	for n := -2; n < 10; n++ {
		for off := -2; off < 12; off++ {
			for step := -2; step < 12; step++ {
				for count := -2; count < 12; count++ {
					v := api.View{Off: off, Step: step, N: count}
					mustGood(t, v, n, goodOf(v, n))
				}
			}
		}
	}
}

// P11.1 and R7: Good of numbers at the edges of a view and of an int: the last place may be beyond one.
func TestGoodOfAnyNumbers(t *testing.T) {
	for _, off := range numbers {
		for _, step := range numbers {
			for _, count := range numbers {
				for _, n := range numbers {
					v := api.View{Off: off, Step: step, N: count}
					mustGood(t, v, n, goodOf(v, n))
				}
			}
		}
	}
}

func TestGoodAtEdges(t *testing.T) {
	for _, c := range []struct {
		v    api.View
		n    int
		want bool
	}{
		{api.View{Off: 0, Step: 1, N: 8}, 8, true},
		{api.View{Off: 0, Step: 1, N: 9}, 8, false},
		{api.View{Off: 1, Step: 1, N: 8}, 8, false},
		{api.View{Off: 1, Step: 3, N: 3}, 8, true},
		{api.View{Off: 1, Step: 3, N: 3}, 7, false},
		{api.View{Off: 2, Step: 3, N: 3}, 8, false},
		{api.View{Off: 7, Step: 100, N: 1}, 8, true},
		{api.View{Off: 8, Step: 1, N: 1}, 8, false},
		{api.View{Off: 8, Step: 1, N: 0}, 8, true},
		{api.View{Off: 99, Step: 1, N: 0}, 8, true},
		{api.View{Off: 0, Step: 1, N: 0}, 0, true},
		{api.View{Off: 0, Step: 1, N: 1}, 0, false},
		{api.View{Off: 0, Step: 0, N: 1}, 8, false},
		{api.View{Off: 0, Step: 0, N: 0}, 8, false},
		{api.View{Off: -1, Step: 1, N: 1}, 8, false},
		{api.View{Off: -1, Step: 1, N: 0}, 8, false},
		{api.View{Off: 3, Step: 1, N: -1}, 8, false},
		{api.View{Off: 0, Step: 1, N: most}, most, true},
		{api.View{Off: 0, Step: 1, N: most}, most - 1, false},
		{api.View{Off: 0, Step: 1, N: most + 1}, 2 * most, false},
		{api.View{Off: 0, Step: 1, N: most + 1}, math.MaxInt, false},
		{api.View{Off: 1, Step: 2, N: most}, 2 * most, true},
		{api.View{Off: 2, Step: 2, N: most}, 2 * most, false},
		{api.View{Off: 1, Step: 1 << 62, N: 3}, 8, false},
		{api.View{Off: 0, Step: 1 << 62, N: 5}, 8, false},
		{api.View{Off: 0, Step: 1 << 62, N: 2}, math.MaxInt, true},
		{api.View{Off: 0, Step: 1 << 62, N: 3}, math.MaxInt, false},
		{api.View{Off: math.MaxInt - 1, Step: 1, N: 1}, math.MaxInt, true},
		{api.View{Off: math.MaxInt, Step: 1, N: 1}, math.MaxInt, false},
		{api.View{Off: 0, Step: math.MaxInt - 1, N: 2}, math.MaxInt, true},
		{api.View{Off: 0, Step: math.MaxInt, N: 2}, math.MaxInt, false},
		{api.View{Off: 0, Step: 1, N: 0}, -1, true}, // there is no place that isn't below it
		{api.View{Off: 0, Step: 1, N: 1}, math.MinInt, false},
	} {
		mustGood(t, c.v, c.n, c.want)
	}
}

// P11.1: Gather's words are those at the view's places, as they are, from P on too.
func TestGather(t *testing.T) {
	for n := 1; n <= 9; n++ {
		l := mixed(n, 1)
		for _, v := range rightViews(n) {
			w, e := rows.Gather(l, v)
			if e != api.OK {
				t.Errorf("Gather of %v, %d words: %d", v, n, e)
			}
			mustSame(t, "Gather", w, gathered(l, placesOf(v)))
		}
	}
	l := []uint64{2, prime, 5, top, 7, prime + 1, 9, 10}
	for _, c := range []struct {
		v    api.View
		want []uint64
	}{
		{api.View{Off: 1, Step: 3, N: 3}, []uint64{prime, 7, 10}},
		{api.View{Off: 0, Step: 1, N: 8}, l},
		{api.View{Off: 3, Step: 2, N: 2}, []uint64{top, prime + 1}},
		{api.View{Off: 7, Step: 1 << 62, N: 1}, []uint64{10}},
		{api.View{Off: 99, Step: 1, N: 0}, nil},
	} {
		w, e := rows.Gather(l, c.v)
		if e != api.OK {
			t.Errorf("Gather of %v: %d", c.v, e)
		}
		mustSame(t, "Gather", w, c.want)
	}
	if w, e := rows.Gather(nil, api.View{Step: 1}); len(w) != 0 || e != api.OK {
		t.Errorf("Gather of no words: %v, %d", w, e)
	}
}

// P11.1 and R4: Gather's answer is new, and the row stays.
func TestGatherIsNew(t *testing.T) {
	l := mixed(8, 2)
	before := slices.Clone(l)
	v := api.View{Off: 2, Step: 1, N: 4}
	w, _ := rows.Gather(l, v)
	other, _ := rows.Gather(l, v)
	clear(append(w, 1, 2)[:6])
	clear(w)
	mustSame(t, "the row behind Gather", l, before)
	mustSame(t, "another answer of Gather", other, before[2:6])
	l[3]++
	mustSame(t, "an answer of Gather, behind a change of the row", other, before[2:6])
}

// P11.1: Scatter writes the words at the view's places, as they are, and no other word.
func TestScatter(t *testing.T) {
	for n := 1; n <= 9; n++ {
		l := mixed(n, 3)
		for _, v := range rightViews(n) {
			w := mixed(v.N, 4)
			before := slices.Clone(w)
			mustWrite(t, "Scatter", scatter(v, w), l, scattered(l, placesOf(v), w))
			mustSame(t, "the words behind Scatter", w, before)
		}
	}
	l := alike(8, 3)
	mustWrite(t, "Scatter", scatter(api.View{Off: 1, Step: 3, N: 3}, []uint64{prime, 0, top}), l, []uint64{3, prime, 3, 3, 0, 3, 3, top})
	mustWrite(t, "Scatter", scatter(api.View{Off: 7, Step: math.MaxInt, N: 1}, []uint64{1}), l, []uint64{3, 3, 3, 3, 3, 3, 3, 1})
	mustWrite(t, "Scatter", scatter(api.View{Off: 8, Step: 1, N: 0}, nil), l, l)
	mustWrite(t, "Scatter", scatter(api.View{Off: 0, Step: 1, N: 0}, []uint64{}), nil, nil)
}

// P11.1 and R4: words that lie in the row itself are written as they were ahead of the call.
func TestScatterOfTheRowsOwnWords(t *testing.T) {
	for n := 1; n <= 9; n++ {
		for _, v := range rightViews(n) {
			for from := range n - min(n, v.N) + 1 {
				l := mixed(n, 5)
				want := scattered(l, placesOf(v), l[from:from+v.N])
				if e := rows.Scatter(l, v, l[from:from+v.N]); e != api.OK {
					t.Errorf("Scatter of %v, %d words: %d", v, n, e)
				}
				mustSame(t, "Scatter of the row's own words", l, want)
			}
		}
	}
}

// P11.1 and R4: what Scatter was handed isn't kept.
func TestScatterKeepsNoWords(t *testing.T) {
	l := mixed(8, 6)
	w := []uint64{1, 2, 3, 4}
	v := api.View{Off: 1, Step: 2, N: 4}
	want := scattered(l, placesOf(v), w)
	rows.Scatter(l, v, w)
	clear(w)
	mustSame(t, "the row behind a change of the words", l, want)
}

// P11.1: Scatter of what was gathered changes nothing, and what was scattered is gathered.
func TestGatherBehindScatter(t *testing.T) {
	l := mixed(64, 7)
	for _, v := range rightViews(12) {
		w, _ := rows.Gather(l, v)
		mustWrite(t, "Scatter of what was gathered", scatter(v, w), l, l)
		written := slices.Clone(l)
		other := mixed(v.N, 8)
		rows.Scatter(written, v, other)
		back, _ := rows.Gather(written, v)
		mustSame(t, "Gather behind Scatter", back, other)
	}
}

// P11.1: views of just 2^20 places, and of more.
func TestViewsOfTheLimit(t *testing.T) {
	l := mixed(2*most+1, 9)
	for _, v := range []api.View{{Off: 0, Step: 1, N: most}, {Off: most + 1, Step: 1, N: most}, {Off: 1, Step: 2, N: most}, {Off: 2, Step: 2, N: most}} {
		w, e := rows.Gather(l, v)
		if e != api.OK {
			t.Errorf("Gather of %v: %d", v, e)
		}
		places := placesOf(v)
		mustSame(t, "Gather", w, gathered(l, places))
		other := mixed(most, 10)
		mustWrite(t, "Scatter", scatter(v, other), l, scattered(l, places, other))
	}
	for _, v := range []api.View{{Off: 0, Step: 1, N: most + 1}, {Off: 0, Step: 1, N: 2 * most}, {Off: most + 2, Step: 1, N: most}, {Off: 3, Step: 2, N: most}} {
		if w, e := rows.Gather(l, v); len(w) != 0 || e != api.ErrRange {
			t.Errorf("Gather of %v: %d words, %d", v, len(w), e)
		}
		mustRefuse(t, "Scatter", scatter(v, make([]uint64, v.N)), l, api.ErrRange)
		mustRefuse(t, "Run", run(v, api.Forward), l, api.ErrRange)
	}
}

// P11.1, R2 and R3: ErrRange of views that aren't right for the row's length, ahead of all others.
func TestWrongViews(t *testing.T) {
	for n := 1; n <= 9; n++ {
		l := mixed(n, 11)
		for _, v := range wrongViews(n) {
			if goodOf(v, n) {
				t.Fatalf("%v is right for %d", v, n)
			}
			if w, e := rows.Gather(l, v); len(w) != 0 || e != api.ErrRange {
				t.Errorf("Gather of %v, %d words: %v, %d", v, n, w, e)
			}
			for _, count := range []int{0, 1, 2, n, min(max(v.N, 0), most+1)} {
				mustRefuse(t, "Scatter", scatter(v, mixed(count, 12)), l, api.ErrRange)
			}
			for _, dir := range slices.Concat(directions, badDirections) {
				mustRefuse(t, "Run", run(v, dir), l, api.ErrRange)
			}
		}
	}
	for _, v := range []api.View{{Off: 0, Step: 1, N: 1}, {Off: 1, Step: 1, N: 1}, {Off: 0, Step: 0, N: 0}, {Off: -1, Step: 1, N: 0}} {
		if w, e := rows.Gather(nil, v); len(w) != 0 || e != api.ErrRange {
			t.Errorf("Gather of %v, no words: %v, %d", v, w, e)
		}
		mustRefuse(t, "Scatter", scatter(v, []uint64{1}), nil, api.ErrRange)
		mustRefuse(t, "Run", run(v, api.Forward), nil, api.ErrRange)
	}
}

// P11.1: ErrOdd of Scatter where there are fewer words than places, or more.
func TestScatterOfOtherLengths(t *testing.T) {
	l := mixed(9, 13)
	for _, v := range rightViews(9) {
		for _, count := range []int{0, 1, v.N - 1, v.N + 1, 2 * v.N, 9, 10} {
			if count >= 0 && count != v.N {
				mustRefuse(t, "Scatter", scatter(v, mixed(count, 14)), l, api.ErrOdd)
			}
		}
	}
	mustRefuse(t, "Scatter", scatter(api.View{Off: 1, Step: 3, N: 2}, l), l, api.ErrOdd)
	mustRefuse(t, "Scatter", scatter(api.View{Off: 1, Step: 3, N: 2}, nil), l, api.ErrOdd)
	mustRefuse(t, "Scatter", scatter(api.View{Step: 1}, []uint64{1}), nil, api.ErrOdd)
}

// P11.2: Run writes the transform of the view's words at its places, by exact sums, and no other word: what isn't canonical beside them stays as it is.
func TestRun(t *testing.T) {
	for n := 1; n <= 17; n++ {
		for _, l := range [][]uint64{mixed(n, 15), alike(n, top)} {
			for _, v := range rightViews(n) {
				if !slices.Contains([]int{1, 2, 4, 8, 16}, v.N) {
					continue
				}
				places := placesOf(v)
				for _, dir := range directions {
					mustWrite(t, "Run", run(v, dir), l, scattered(l, places, transformOf(gathered(l, places), dir)))
				}
			}
		}
	}
}

func TestRunAtEdges(t *testing.T) {
	for _, c := range []struct {
		l    []uint64
		v    api.View
		dir  int
		want []uint64
	}{
		{[]uint64{1, 0, 0, 0}, api.View{Off: 0, Step: 1, N: 4}, api.Forward, []uint64{1, 1, 1, 1}},
		{[]uint64{0, 1, 0, 0}, api.View{Off: 0, Step: 1, N: 4}, api.Forward, []uint64{1, unit, prime - 1, prime - unit}},
		{[]uint64{0, 4, 0, 0}, api.View{Off: 0, Step: 1, N: 4}, api.Inverse, []uint64{1, prime - unit, prime - 1, unit}},
		{[]uint64{9, 1, 9, 2, 9}, api.View{Off: 1, Step: 2, N: 2}, api.Forward, []uint64{9, 3, 9, prime - 1, 9}},
		{[]uint64{9, 4, 9, 2, 9}, api.View{Off: 1, Step: 2, N: 2}, api.Inverse, []uint64{9, 3, 9, 1, 9}},
		{[]uint64{prime, top, prime}, api.View{Off: 1, Step: 1, N: 1}, api.Forward, []uint64{prime, 1<<32 - 2, prime}},
		{[]uint64{prime, prime, prime}, api.View{Off: 2, Step: math.MaxInt, N: 1}, api.Inverse, []uint64{prime, prime, 0}},
		{[]uint64{top, 7, top}, api.View{Off: 1, Step: 1, N: 1}, api.Inverse, []uint64{top, 7, top}},
		{[]uint64{prime + 3, 1, prime + 5}, api.View{Off: 0, Step: 2, N: 2}, api.Forward, []uint64{8, 1, prime - 2}},
	} {
		mustWrite(t, "Run", run(c.v, c.dir), c.l, c.want)
	}
}

// P11.2: ErrLen where a view has a number of places that is no power of two, none among them; ahead of ErrKind (R2).
func TestRunOfOtherLengths(t *testing.T) {
	l := mixed(40, 16)
	for count := range 40 {
		if slices.Contains([]int{1, 2, 4, 8, 16, 32}, count) {
			continue
		}
		for _, dir := range slices.Concat(directions, badDirections) {
			mustRefuse(t, "Run", run(api.View{Off: 0, Step: 1, N: count}, dir), l, api.ErrLen)
			mustRefuse(t, "Run", run(api.View{Off: 40 - count, Step: 1, N: count}, dir), l, api.ErrLen)
		}
	}
	mustRefuse(t, "Run", run(api.View{Off: 99, Step: 1, N: 0}, api.Forward), l, api.ErrLen)
	mustRefuse(t, "Run", run(api.View{Off: 0, Step: 1, N: 0}, api.Inverse), nil, api.ErrLen)
	mustRefuse(t, "Run", run(api.View{Off: 0, Step: 1, N: most - 1}, api.Forward), make([]uint64, most), api.ErrLen)
}

// P11.2: ErrKind where there is no such direction; of words from P on not even what they leave is written.
func TestRunOfOtherDirections(t *testing.T) {
	for k := range 6 {
		v := api.View{Off: 1, Step: 2, N: 1 << k}
		for _, dir := range badDirections {
			mustRefuse(t, "Run", run(v, dir), mixed(100, 17), api.ErrKind)
			mustRefuse(t, "Run", run(v, dir), alike(100, top), api.ErrKind)
		}
	}
	mustRefuse(t, "Run", run(api.View{Off: 0, Step: 1, N: most}, 2), alike(most, prime), api.ErrKind)
}

// P11.2: Run of longer views, by layer 9's transforms, just 2^20 words among them.
func TestRunOfLongerViews(t *testing.T) {
	l := mixed(2*most, 18)
	for _, v := range []api.View{{Off: 3, Step: 7, N: 1 << 10}, {Off: 100, Step: 1, N: 1 << 13}, {Off: 2*most - 1 - (1<<11-1)*1000, Step: 1000, N: 1 << 11}, {Off: 1, Step: 2, N: most}, {Off: most, Step: 1, N: most}} {
		places := placesOf(v)
		for _, dir := range directions {
			transformed, e := kern2.Transform(gathered(l, places), dir)
			if e != api.OK {
				t.Fatalf("Transform of %d words: %d", v.N, e)
			}
			mustWrite(t, "Run", run(v, dir), l, scattered(l, places, transformed))
		}
	}
}

// eachRow is a row of words with each row of a shape transformed.
func eachRow(l []uint64, s api.Shape, transform func([]uint64) []uint64) []uint64 {
	var out []uint64
	for row := range slices.Chunk(l, s.Cols) {
		out = append(out, transform(row)...)
	}
	return out
}

// eachCol is a row of words with each column of a shape transformed.
func eachCol(l []uint64, s api.Shape, transform func([]uint64) []uint64) []uint64 {
	out := slices.Clone(l)
	for c := range s.Cols {
		places := placesOf(api.View{Off: c, Step: s.Cols, N: s.Rows})
		put(out, places, transform(gathered(l, places)))
	}
	return out
}

// bySums is a transform in a direction, by exact sums.
func bySums(dir int) func([]uint64) []uint64 {
	return func(l []uint64) []uint64 { return transformOf(l, dir) }
}

// byHalves is a transform in a direction, by layer 9.
func byHalves(t *testing.T, dir int) func([]uint64) []uint64 {
	return func(l []uint64) []uint64 {
		out, e := kern2.Transform(l, dir)
		if e != api.OK {
			t.Fatalf("Transform of %d words: %d", len(l), e)
		}
		return out
	}
}

// P11.2: Rows and Cols of each shape of few words, by exact sums.
func TestRowsAndCols(t *testing.T) {
	for k := range 7 {
		for _, s := range shapesOf(k) {
			for _, l := range someRows(1 << k) {
				for _, dir := range directions {
					mustInShape(t, inShape{"Rows", rows.Rows}, l, s, dir, eachRow(l, s, bySums(dir)))
					mustInShape(t, inShape{"Cols", rows.Cols}, l, s, dir, eachCol(l, s, bySums(dir)))
				}
			}
		}
	}
}

// P11.2: Rows and Cols of each shape of more words, by layer 9's transforms of what layer 6 takes out.
func TestRowsAndColsOfMoreWords(t *testing.T) {
	for _, k := range []int{9, 12, 15} {
		l := mixed(1<<k, 19)
		for _, s := range shapesOf(k) {
			for _, dir := range directions {
				mustInShape(t, inShape{"Rows", rows.Rows}, l, s, dir, eachRow(l, s, byHalves(t, dir)))
				mustInShape(t, inShape{"Cols", rows.Cols}, l, s, dir, eachCol(l, s, byHalves(t, dir)))
			}
		}
	}
}

func TestInShapeAtEdges(t *testing.T) {
	l := []uint64{1, 2, 3, 4, 5, 6, 7, 8}
	bent := []uint64{prime + 1, 2, prime + 3, 4, 5, 6, 7, 8}
	for _, c := range []struct {
		call int
		l    []uint64
		s    api.Shape
		dir  int
		want []uint64
	}{
		{0, l, shapeOf(1, 2), api.Forward, []uint64{10, prime - 2 - 2*unit, prime - 2, 2*unit - 2, 26, prime - 2 - 2*unit, prime - 2, 2*unit - 2}},
		{0, l, shapeOf(2, 1), api.Forward, []uint64{3, prime - 1, 7, prime - 1, 11, prime - 1, 15, prime - 1}},
		{0, l, shapeOf(3, 0), api.Forward, l},
		{0, bent, shapeOf(3, 0), api.Inverse, l},
		{1, l, shapeOf(1, 2), api.Forward, []uint64{6, 8, 10, 12, prime - 4, prime - 4, prime - 4, prime - 4}},
		{1, l, shapeOf(1, 2), api.Inverse, []uint64{3, 4, 5, 6, prime - 2, prime - 2, prime - 2, prime - 2}},
		{1, l, shapeOf(0, 3), api.Forward, l},
		{1, bent, shapeOf(0, 3), api.Inverse, l},
		{2, []uint64{1, 0, 0, 0}, shapeOf(1, 1), api.Forward, []uint64{1, 1, 1, 1}},
		{2, []uint64{4, 0, 0, 0}, shapeOf(1, 1), api.Inverse, []uint64{1, 1, 1, 1}},
		{2, []uint64{0, 1, 0, 0}, shapeOf(1, 1), api.Forward, []uint64{1, unit, prime - 1, prime - unit}},
		{2, []uint64{0, 4, 0, 0}, shapeOf(1, 1), api.Inverse, []uint64{1, prime - unit, prime - 1, unit}},
		{2, []uint64{0, 0, 0, 1}, shapeOf(1, 1), api.Forward, []uint64{1, prime - unit, prime - 1, unit}},
		{2, []uint64{1, 2, 3, 4}, shapeOf(2, 0), api.Forward, []uint64{10, prime - 2 - 2*unit, prime - 2, 2*unit - 2}},
		{2, []uint64{1, 2, 3, 4}, shapeOf(0, 2), api.Forward, []uint64{10, prime - 2 - 2*unit, prime - 2, 2*unit - 2}},
		{2, []uint64{prime + 1, prime, prime, prime}, shapeOf(1, 1), api.Forward, []uint64{1, 1, 1, 1}},
		{2, []uint64{top}, shapeOf(0, 0), api.Forward, []uint64{1<<32 - 2}},
		{2, []uint64{prime}, shapeOf(0, 0), api.Inverse, []uint64{0}},
		{0, []uint64{top}, shapeOf(0, 0), api.Inverse, []uint64{1<<32 - 2}},
		{1, []uint64{prime + 4}, shapeOf(0, 0), api.Forward, []uint64{4}},
	} {
		mustInShape(t, allInShape()[c.call], c.l, c.s, c.dir, c.want)
	}
}

// P11.2: Rows in a shape is Cols in the shape turned, of the words transposed.
func TestRowsAreColsTurned(t *testing.T) {
	for k := range 10 {
		for _, s := range shapesOf(k) {
			l := mixed(1<<k, 20)
			for _, dir := range directions {
				turned, _ := shape.Transpose(l, s)
				rows.Cols(turned, shape.Turned(s), dir)
				want, _ := shape.Transpose(turned, shape.Turned(s))
				mustInShape(t, inShape{"Rows", rows.Rows}, l, s, dir, want)
			}
		}
	}
}

// P11.3: Six of each shape of a size is the transform of the whole row, by exact sums.
func TestSix(t *testing.T) {
	for k := range 7 {
		for _, l := range someRows(1 << k) {
			for _, dir := range directions {
				want := transformOf(l, dir)
				for _, s := range shapesOf(k) {
					mustInShape(t, inShape{"Six", rows.Six}, l, s, dir, want)
				}
			}
		}
	}
}

// P11.3: each word of a row goes to its own powers of the root, whatever the shape: a row with but one word has them.
func TestSixOfPulses(t *testing.T) {
	for k := range 7 {
		n := 1 << k
		for at := range n {
			for _, dir := range directions {
				want := make([]uint64, n)
				for j := range n {
					want[j] = powerOf(n, dir, at*j%n).Uint64()
				}
				for _, s := range shapesOf(k) {
					mustInShape(t, inShape{"Six", rows.Six}, pulse(n, at, []uint64{1, uint64(n)}[dir]), s, dir, want)
				}
			}
		}
	}
}

// P11.3: the same as layer 8's transform by its sums, up to the longest row that it has one of.
func TestSixGoesBySlow(t *testing.T) {
	for k := range 11 {
		l := mixed(1<<k, 21)
		for _, dir := range directions {
			want, e := twid.Slow(l, dir)
			if e != api.OK {
				t.Fatalf("Slow of 2^%d words: %d", k, e)
			}
			for _, s := range shapesOf(k) {
				mustInShape(t, inShape{"Six", rows.Six}, l, s, dir, want)
			}
		}
	}
}

// P11.3: longer rows, by layer 9's transforms, of just 2^20 words too, in one row and in one column.
func TestSixOfLongerRows(t *testing.T) {
	for _, c := range []struct {
		k      int
		shapes []api.Shape
	}{
		{11, shapesOf(11)},
		{14, shapesOf(14)},
		{17, []api.Shape{shapeOf(0, 17), shapeOf(8, 9), shapeOf(9, 8), shapeOf(17, 0)}},
		{20, []api.Shape{shapeOf(0, 20), shapeOf(9, 11), shapeOf(20, 0)}},
	} {
		l := mixed(1<<c.k, 22)
		for _, dir := range directions {
			want := byHalves(t, dir)(l)
			for _, s := range c.shapes {
				mustInShape(t, inShape{"Six", rows.Six}, l, s, dir, want)
			}
		}
	}
}

// P11.3: rows that no kernel is of: some words of their transforms are the row's values as a polynomial, at the powers of the root; and the way back is the row.
func TestSixBeyondKernels(t *testing.T) {
	n := 2 * most
	l := mixed(n, 23)
	values := map[int]uint64{}
	for _, j := range []int{0, 1, 2, 3, n / 4, n/2 - 1, n / 2, n/2 + 1, n - 2, n - 1} {
		values[j] = poly.At(l, powerOf(n, api.Forward, j).Uint64())
	}
	for _, s := range []api.Shape{shapeOf(1, 20), shapeOf(10, 11), shapeOf(20, 1)} {
		out := slices.Clone(l)
		if e := rows.Six(out, s, api.Forward); e != api.OK {
			t.Fatalf("Six of %v: %d", s, e)
		}
		for j, want := range values {
			if out[j] != want {
				t.Errorf("Six of %v: %d at %d, want %d", s, out[j], j, want)
			}
		}
		if e := rows.Six(out, shape.Turned(s), api.Inverse); e != api.OK {
			t.Fatalf("Six of %v: %d", s, e)
		}
		mustSame(t, "Six, there and back", out, canonical(l))
	}
}

// P11.2 and P11.3: the inverse transforms of the forward ones are the row, canonical, and the other way about; Six's in any other shape of the size too.
func TestThereAndBack(t *testing.T) {
	for k := range 11 {
		for _, s := range shapesOf(k) {
			for _, l := range [][]uint64{mixed(1<<k, 24), alike(1<<k, top)} {
				for _, dir := range directions {
					for _, c := range allInShape() {
						there := slices.Clone(l)
						c.call(there, s, dir)
						mustInShape(t, c, there, s, 1-dir, canonical(l))
						if c.name == "Six" {
							mustInShape(t, c, there, shape.Turned(s), 1-dir, canonical(l))
						}
					}
				}
			}
		}
	}
}

// P11.2 and P11.3: the transform of a row times a word, and another row, is the transform times the word, and the other transform.
func TestTransformsAreLinear(t *testing.T) {
	for _, s := range slices.Concat(shapesOf(4), shapesOf(7)) {
		n := shape.Size(s)
		a, b := mixed(n, 25), mixed(n, 26)
		for _, dir := range directions {
			for _, c := range allInShape() {
				ofA, ofB := slices.Clone(a), slices.Clone(b)
				c.call(ofA, s, dir)
				c.call(ofB, s, dir)
				for _, w := range []uint64{0, 1, unit, prime - 1, prime, top} {
					both, want := slices.Clone(a), slices.Clone(ofA)
					for i := range both {
						both[i] = gold.Add(gold.Mul(a[i], w), b[i])
						want[i] = gold.Add(gold.Mul(ofA[i], w), ofB[i])
					}
					mustInShape(t, c, both, s, dir, want)
				}
			}
		}
	}
}

// P11.2 and P11.3: ErrOdd where a row's length isn't the shape's size, ahead of ErrKind (R2).
func TestInShapeOfOtherLengths(t *testing.T) {
	for k := range 7 {
		for _, s := range shapesOf(k) {
			n := 1 << k
			for _, other := range []int{0, 1, 2, 3, 4, s.Rows, s.Cols, n - 1, n + 1, n / 2, 2 * n, 3 * n} {
				if other == n {
					continue
				}
				for _, dir := range slices.Concat(directions, badDirections) {
					for _, c := range allInShape() {
						mustRefuseInShape(t, c, mixed(other, 27), s, dir, api.ErrOdd)
					}
				}
			}
			for _, c := range allInShape() {
				mustRefuseInShape(t, c, nil, s, api.Forward, api.ErrOdd)
			}
		}
	}
}

// P11.2 and P11.3: ErrOdd where a shape isn't right, of rows of no words and of as many as its product too; ahead of ErrKind and ErrLarge (R2).
func TestInWrongShapes(t *testing.T) {
	for _, s := range wrongShapes() {
		for _, n := range []int{0, 1, 2, 3, 4, 6, 8, 9, 12} {
			for _, dir := range []int{api.Forward, api.Inverse, 2, -1} {
				for _, c := range allInShape() {
					mustRefuseInShape(t, c, mixed(n, 28), s, dir, api.ErrOdd)
				}
			}
		}
	}
	for _, c := range allInShape() {
		mustRefuseInShape(t, c, make([]uint64, 3*most), api.Shape{Rows: 3, Cols: most}, api.Forward, api.ErrOdd)
		mustRefuseInShape(t, c, make([]uint64, 3*most), api.Shape{Rows: 3 * most, Cols: 1}, api.Forward, api.ErrOdd)
		mustRefuseInShape(t, c, make([]uint64, most+1), api.Shape{Rows: 1, Cols: most + 1}, api.Forward, api.ErrOdd)
	}
}

// P11.2 and P11.3: ErrKind where there is no such direction; of words from P on not even what they leave is written.
func TestInShapeOfOtherDirections(t *testing.T) {
	for k := range 6 {
		for _, s := range shapesOf(k) {
			for _, dir := range badDirections {
				for _, c := range allInShape() {
					mustRefuseInShape(t, c, mixed(1<<k, 29), s, dir, api.ErrKind)
					mustRefuseInShape(t, c, alike(1<<k, top), s, dir, api.ErrKind)
				}
			}
		}
	}
}

// P11.2 and P11.3: ErrLarge where the rows, the columns, or, of Six, either have more than 2^20 words; behind ErrOdd and ErrKind (R2).
func TestInShapesThatAreTooGreat(t *testing.T) {
	l := alike(2*most, top)
	for _, wide := range []api.Shape{shapeOf(0, 21), shapeOf(21, 0)} {
		for _, c := range allInShape() {
			if c.name == "Rows" && wide.Cols == 1 || c.name == "Cols" && wide.Rows == 1 {
				mustInShape(t, c, l, wide, api.Forward, alike(2*most, 1<<32-2)) // each is of but one word
				continue
			}
			mustRefuseInShape(t, c, l, wide, api.Forward, api.ErrLarge)
			mustRefuseInShape(t, c, l, wide, api.Inverse, api.ErrLarge)
			mustRefuseInShape(t, c, l, wide, 2, api.ErrKind)
			mustRefuseInShape(t, c, l, wide, -1, api.ErrKind)
			mustRefuseInShape(t, c, l[1:], wide, api.Forward, api.ErrOdd)
			mustRefuseInShape(t, c, l[:most], wide, 2, api.ErrOdd)
		}
	}
	four := alike(4*most, prime)
	for _, c := range allInShape() {
		if c.name != "Cols" {
			mustRefuseInShape(t, c, four, shapeOf(1, 21), api.Inverse, api.ErrLarge)
		}
		if c.name != "Rows" {
			mustRefuseInShape(t, c, four, shapeOf(21, 1), api.Inverse, api.ErrLarge)
		}
	}
}

// P11.2: rows and columns of just 2^20 words are transformed.
func TestInShapesOfTheLimit(t *testing.T) {
	l := mixed(2*most, 30)
	for _, dir := range directions {
		mustInShape(t, inShape{"Rows", rows.Rows}, l, shapeOf(1, 20), dir, eachRow(l, shapeOf(1, 20), byHalves(t, dir)))
		mustInShape(t, inShape{"Cols", rows.Cols}, l, shapeOf(20, 1), dir, eachCol(l, shapeOf(20, 1), byHalves(t, dir)))
	}
}

// R8: the same calls answer the same, whatever was asked, or refused, in between.
func TestCallsKeepNothing(t *testing.T) {
	for k := range 6 {
		for _, s := range shapesOf(k) {
			for _, dir := range directions {
				for _, c := range allInShape() {
					l := mixed(1<<k, 31)
					once := slices.Clone(l)
					c.call(once, s, dir)
					want := slices.Clone(once)
					c.call(mixed(1<<k, 32), shape.Turned(s), 1-dir)
					c.call(l[1:], s, dir)
					mustSame(t, "a row that was worked on before", once, want)
					mustInShape(t, c, l, s, dir, want)
				}
			}
		}
	}
}

// partsOf are the parts of n words, cut by hand.
func partsOf(l []uint64, n int) [][]uint64 {
	var all [][]uint64
	for from := 0; from < len(l); from += n {
		all = append(all, l[from:from+n])
	}
	return all
}

// P11.4: Parts are the words, one part behind the other, and Join of them is the row: of one word, of some, of all.
func TestParts(t *testing.T) {
	for size := range 25 {
		l := mixed(size, 33)
		for n := 1; n <= 30; n++ {
			if size%n != 0 {
				continue
			}
			parts, e := rows.Parts(l, n)
			want := partsOf(l, n)
			if len(parts) != len(want) || e != api.OK {
				t.Fatalf("Parts of %d words, %d: %d parts, %d", size, n, len(parts), e)
			}
			for i := range want {
				mustSame(t, "a part", parts[i], want[i])
			}
			mustSame(t, "Join of Parts", rows.Join(parts...), l)
		}
	}
	for _, n := range []int{1, 2, 100, math.MaxInt} {
		if parts, e := rows.Parts(nil, n); len(parts) != 0 || e != api.OK {
			t.Errorf("Parts of no words, %d: %v, %d", n, parts, e)
		}
	}
	l := mixed(most, 34)
	parts, _ := rows.Parts(l, 1024)
	mustSame(t, "Join of Parts", rows.Join(parts...), l)
}

// P11.4, R2 and R3: ErrArg of parts of less than one word, ahead of ErrOdd of a length that is no multiple.
func TestPartsOfOtherLengths(t *testing.T) {
	for size := range 12 {
		l := mixed(size, 35)
		for _, n := range []int{0, -1, -2, -3, -size, -1 << 32, math.MinInt, math.MinInt + 1} {
			if parts, e := rows.Parts(l, n); len(parts) != 0 || e != api.ErrArg {
				t.Errorf("Parts of %d words, %d: %v, %d, want %d", size, n, parts, e, api.ErrArg)
			}
		}
		for _, n := range []int{2, 3, 4, 5, 7, 8, size + 1, size + 2, 2 * size, 1 << 32, 1 << 62, math.MaxInt} {
			if n == 0 || size%n == 0 {
				continue
			}
			if parts, e := rows.Parts(l, n); len(parts) != 0 || e != api.ErrOdd {
				t.Errorf("Parts of %d words, %d: %v, %d, want %d", size, n, parts, e, api.ErrOdd)
			}
		}
	}
}

// P11.4 and R4: parts are new: the row stays when they are written and grown, and no part changes another one.
func TestPartsAreNew(t *testing.T) {
	for _, n := range []int{1, 2, 4, 8} {
		l := mixed(8, 36)
		before := slices.Clone(l)
		parts, _ := rows.Parts(l, n)
		for i, part := range parts {
			grown := append(part, 1, 2, 3)
			clear(grown)
			clear(part)
			mustSame(t, "the row behind Parts", l, before)
			for j := i + 1; j < len(parts); j++ {
				mustSame(t, "a part behind a change of another one", parts[j], before[j*n:(j+1)*n])
			}
		}
		kept, _ := rows.Parts(l, n)
		clear(l)
		mustSame(t, "parts behind a change of the row", rows.Join(kept...), before)
	}
}

// P11.4: Join of any number of parts, of any lengths, none and empty ones among them.
func TestJoin(t *testing.T) {
	for _, c := range []struct {
		parts [][]uint64
		want  []uint64
	}{
		{nil, nil},
		{[][]uint64{nil}, nil},
		{[][]uint64{{}, nil, {}}, nil},
		{[][]uint64{{1}}, []uint64{1}},
		{[][]uint64{{1, 2}, {3}}, []uint64{1, 2, 3}},
		{[][]uint64{{3}, {1, 2}}, []uint64{3, 1, 2}},
		{[][]uint64{nil, {1, 2}, {}, {top, prime}, nil, {0}}, []uint64{1, 2, top, prime, 0}},
		{[][]uint64{{1}, {2}, {3}, {4}, {5}, {6}, {7}}, []uint64{1, 2, 3, 4, 5, 6, 7}},
		{slices.Repeat([][]uint64{{7, 8}}, 300), slices.Repeat([]uint64{7, 8}, 300)},
	} {
		mustSame(t, "Join", rows.Join(c.parts...), c.want)
	}
	mustSame(t, "Join", rows.Join(), nil)
	mustSame(t, "Join", rows.Join([]uint64{1}, nil, []uint64{2, 3}), []uint64{1, 2, 3})
}

// P11.4 and R4: what is joined is new, of one part too, and what lies behind a part's length isn't touched.
func TestJoinIsNew(t *testing.T) {
	memory := []uint64{1, 2, 3, 4, 5, 6}
	before := slices.Clone(memory)
	parts := [][]uint64{memory[:2], memory[3:5]}
	for _, joined := range [][]uint64{rows.Join(parts...), rows.Join(memory[:2]), rows.Join(memory[:2], nil), rows.Join(nil, memory[:2]), rows.Join(memory[:0])} {
		grown := append(joined, 9)
		clear(grown)
		clear(joined)
		mustSame(t, "the parts' memory behind Join", memory, before)
	}
	kept := rows.Join(parts...)
	clear(memory)
	mustSame(t, "Join, behind a change of the parts", kept, []uint64{1, 2, 4, 5})
	if len(parts) != 2 || len(parts[0]) != 2 || len(parts[1]) != 2 {
		t.Errorf("Join has changed the list of parts: %v", parts)
	}
}

// P1: calls end and none panics, whatever numbers and rows come together.
func TestAnyArgument(t *testing.T) {
	lists := [][]uint64{nil, {}, {top}, mixed(2, 37), mixed(3, 37), mixed(8, 37), mixed(9, 37)}
	for _, l := range lists {
		for _, a := range numbers {
			rows.Parts(l, a)
			for _, b := range numbers {
				for _, c := range numbers {
					v := api.View{Off: a, Step: b, N: c}
					rows.Gather(l, v)
					rows.Scatter(l, v, l)
					rows.Scatter(l, v, nil)
					rows.Run(l, v, a)
					rows.Run(l, v, api.Forward)
					for _, call := range allInShape() {
						call.call(l, api.Shape{Rows: a, Cols: b}, c)
					}
				}
			}
		}
		for _, other := range lists {
			rows.Join(l, other, nil, l)
		}
	}
}

// The rules that the tests go by are the document's own: they are held against what is written out by hand.
func TestTheTestsOwnRules(t *testing.T) {
	mustSame(t, "transformOf", transformOf([]uint64{0, 1, 0, prime}, api.Forward), []uint64{1, unit, prime - 1, prime - unit})
	mustSame(t, "transformOf", transformOf([]uint64{0, 4, 0, 0}, api.Inverse), []uint64{1, prime - unit, prime - 1, unit})
	mustSame(t, "transformOf", transformOf([]uint64{top}, api.Inverse), []uint64{1<<32 - 2})
	mustSame(t, "canonical", canonical([]uint64{prime, top, 3}), []uint64{0, 1<<32 - 2, 3})
	v := api.View{Off: 1, Step: 2, N: 3}
	if !slices.Equal(placesOf(v), []int{1, 3, 5}) || !goodOf(v, 6) || goodOf(v, 5) || len(shapesOf(3)) != 4 {
		t.Error("the rules of views tell something else")
	}
	mustSame(t, "gathered", gathered([]uint64{9, 1, 9, 2, 9, 3}, placesOf(v)), []uint64{1, 2, 3})
	mustSame(t, "scattered", scattered(alike(6, 9), placesOf(v), []uint64{1, 2, 3}), []uint64{9, 1, 9, 2, 9, 3})
	l := []uint64{1, 2, 3, 4}
	mustSame(t, "eachRow", eachRow(l, shapeOf(1, 1), bySums(api.Forward)), []uint64{3, prime - 1, 7, prime - 1})
	mustSame(t, "eachCol", eachCol(l, shapeOf(1, 1), bySums(api.Forward)), []uint64{4, 6, prime - 2, prime - 2})
	mustSame(t, "l", l, []uint64{1, 2, 3, 4})
}
