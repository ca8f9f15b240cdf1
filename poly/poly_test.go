package poly

import (
	"math"
	"math/big"
	"slices"
	"testing"

	"abacist/api"
)

const (
	prime = api.P
	top   = uint64(math.MaxUint64)
)

// someWords are edges of the field and of words, from P on too.
var someWords = []uint64{0, 1, 2, 3, 7, 1<<32 - 1, 1 << 32, 1<<32 + 1, 1 << 63, prime - 2, prime - 1, prime, prime + 1, prime + 2, top - 1, top}

// zeros are rows that are the zero polynomial.
var zeros = [][]uint64{nil, {}, {0}, {prime}, {0, 0}, {prime, 0}, {0, prime}, {prime, prime, prime}, {0, 0, prime, 0, 0}}

// mixed are n words that a fixed rule mixes, some of them from P on, and none of them 0 in the field.
func mixed(n int, seed uint64) []uint64 {
	l := make([]uint64, n)
	w := seed
	for i := range l {
		w = w*6364136223846793005 + 1442695040888963407
		l[i] = w ^ w>>29
		if i%5 == 3 {
			l[i] = prime + 1 + w>>33
		}
		if l[i]%prime == 0 {
			l[i] = 1
		}
	}
	return l
}

// padded is a row with n words behind it that are 0 in the field, every other one P.
func padded(p []uint64, n int) []uint64 {
	l := slices.Clone(p)
	for i := range n {
		l = append(l, uint64(i%2)*prime)
	}
	return l
}

// someRows are rows of many lengths: zero polynomials, constants, canonical words and others, with and without words behind the last one that counts.
func someRows() [][]uint64 {
	l := slices.Clone(zeros)
	l = append(l, []uint64{1}, []uint64{prime + 1}, []uint64{top}, []uint64{prime - 1}, []uint64{0, 1}, []uint64{prime, prime + 1}, []uint64{0, 0, 0, 5}, []uint64{2, prime - 3, 1}, []uint64{2, prime - 3, 1, 0, prime})
	for i, n := range []int{1, 2, 3, 4, 5, 8, 13, 30} {
		p := mixed(n, uint64(i))
		l = append(l, p, padded(p, 1), padded(p, 4))
	}
	return l
}

func bigOf(a uint64) *big.Int {
	return new(big.Int).SetUint64(a)
}

func left(n *big.Int) uint64 {
	return new(big.Int).Mod(n, bigOf(prime)).Uint64()
}

// row is the trimmed row of exact coefficients, as the document says it.
func row(l []*big.Int) []uint64 {
	var words []uint64
	last := 0
	for i, n := range l {
		words = append(words, left(n))
		if words[i] != 0 {
			last = i + 1
		}
	}
	return words[:last]
}

// exact are the coefficients of a row, with noughts behind it up to n.
func exact(p []uint64, n int) []*big.Int {
	l := make([]*big.Int, max(n, len(p)))
	for i := range l {
		l[i] = new(big.Int)
		if i < len(p) {
			l[i].SetUint64(p[i])
		}
	}
	return l
}

// valueOf is the sum of the coefficients times the powers of x.
func valueOf(p []uint64, x uint64) uint64 {
	sum := new(big.Int)
	for i, c := range p {
		power := new(big.Int).Exp(bigOf(x), big.NewInt(int64(i)), bigOf(prime))
		sum.Add(sum, power.Mul(power, bigOf(c)))
	}
	return left(sum)
}

func sumOf(l ...[]uint64) []uint64 {
	n := 0
	for _, p := range l {
		n = max(n, len(p))
	}
	sum := exact(nil, n)
	for _, p := range l {
		for i, c := range exact(p, 0) {
			sum[i].Add(sum[i], c)
		}
	}
	return row(sum)
}

func differenceOf(p, q []uint64) []uint64 {
	d := exact(p, len(q))
	for i, c := range exact(q, 0) {
		d[i].Sub(d[i], c)
	}
	return row(d)
}

func scaledOf(p []uint64, a uint64) []uint64 {
	l := exact(p, 0)
	for _, c := range l {
		c.Mul(c, bigOf(a))
	}
	return row(l)
}

func derivedOf(p []uint64) []uint64 {
	l := exact(p, 1)
	for i, c := range l {
		c.Mul(c, big.NewInt(int64(i)))
	}
	return row(l[1:])
}

func productOf(p, q []uint64) []uint64 {
	l := exact(nil, len(p)+len(q))
	for i, a := range p {
		for j, b := range q {
			c := bigOf(a)
			l[i+j].Add(l[i+j], c.Mul(c, bigOf(b)))
		}
	}
	return row(l)
}

// mustRow holds a row against the one that is asked for, word by word: so it is trimmed and canonical, if that one is.
func mustRow(t *testing.T, name string, got, want []uint64) {
	t.Helper()
	if !slices.Equal(got, want) {
		t.Errorf("%s = %v, want %v", name, got, want)
	}
}

func mustMul(t *testing.T, p, q, want []uint64) {
	t.Helper()
	got, e := Mul(p, q)
	if !slices.Equal(got, want) || e != api.OK {
		t.Errorf("Mul of %d and %d words = %d words, %d, want %d", len(p), len(q), len(got), e, len(want))
	}
}

func mustDivLinear(t *testing.T, p []uint64, a uint64, quo []uint64, rest uint64) {
	t.Helper()
	q, r := DivLinear(p, a)
	if !slices.Equal(q, quo) || r != rest {
		t.Errorf("DivLinear(%v, %d) = %v, %d, want %v, %d", p, a, q, r, quo, rest)
	}
}

func mustDiv(t *testing.T, p, q, quo, rest []uint64) {
	t.Helper()
	gotQuo, gotRest, e := Div(p, q)
	if !slices.Equal(gotQuo, quo) || !slices.Equal(gotRest, rest) || e != api.OK {
		t.Errorf("Div of %d by %d words = %v, %v, %d, want %v, %v", len(p), len(q), gotQuo, gotRest, e, quo, rest)
	}
}

func mustRoots(t *testing.T, l, want []uint64) {
	t.Helper()
	if got, e := FromRoots(l...); !slices.Equal(got, want) || e != api.OK {
		t.Errorf("FromRoots of %d = %v, %d, want %v", len(l), got, e, want)
	}
}

func mustThrough(t *testing.T, x, y, want []uint64) {
	t.Helper()
	if got, e := Through(x, y); !slices.Equal(got, want) || e != api.OK {
		t.Errorf("Through of %d points = %v, %d, want %v", len(x), got, e, want)
	}
}

// mustNotMul and the others like it hold no words beside the error (R3).
func mustNotMul(t *testing.T, p, q []uint64) {
	t.Helper()
	if got, e := Mul(p, q); len(got) != 0 || e != api.ErrLarge {
		t.Errorf("Mul of %d and %d words: %d words, %d, want none and ErrLarge", len(p), len(q), len(got), e)
	}
}

func mustNotDiv(t *testing.T, p, q []uint64, want api.Errno) {
	t.Helper()
	if quo, rest, e := Div(p, q); len(quo) != 0 || len(rest) != 0 || e != want {
		t.Errorf("Div of %d by %d words: %d and %d words, %d, want none and %d", len(p), len(q), len(quo), len(rest), e, want)
	}
}

func mustNotThrough(t *testing.T, x, y []uint64, want api.Errno) {
	t.Helper()
	if got, e := Through(x, y); len(got) != 0 || e != want {
		t.Errorf("Through of %d and %d words: %d words, %d, want none and %d", len(x), len(y), len(got), e, want)
	}
}

// P7.1: Degree and Trim.
func TestDegreeAndTrim(t *testing.T) {
	for _, c := range []struct {
		p      []uint64
		degree int
		want   []uint64
	}{
		{[]uint64{1}, 0, []uint64{1}},
		{[]uint64{prime - 1}, 0, []uint64{prime - 1}},
		{[]uint64{prime + 1}, 0, []uint64{1}},
		{[]uint64{top}, 0, []uint64{1<<32 - 2}},
		{[]uint64{5, 0}, 0, []uint64{5}},
		{[]uint64{5, prime}, 0, []uint64{5}},
		{[]uint64{5, prime, 0, prime}, 0, []uint64{5}},
		{[]uint64{0, 5}, 1, []uint64{0, 5}},
		{[]uint64{prime, 5}, 1, []uint64{0, 5}},
		{[]uint64{prime, prime + 5, prime}, 1, []uint64{0, 5}},
		{[]uint64{0, 0, 1, 0, 0, 2, 0}, 5, []uint64{0, 0, 1, 0, 0, 2}},
		{[]uint64{2, prime - 3, 1, 0, prime}, 2, []uint64{2, prime - 3, 1}},
		{[]uint64{0, 0, 0, prime + 1}, 3, []uint64{0, 0, 0, 1}},
	} {
		if got := Degree(c.p); got != c.degree {
			t.Errorf("Degree(%v) = %d, want %d", c.p, got, c.degree)
		}
		mustRow(t, "Trim", Trim(c.p), c.want)
	}
	for _, p := range zeros {
		if Degree(p) != -1 || len(Trim(p)) != 0 {
			t.Errorf("Degree(%v) = %d, Trim = %v", p, Degree(p), Trim(p))
		}
	}
	for _, p := range someRows() {
		want := row(exact(p, 0))
		mustRow(t, "Trim", Trim(p), want)
		if got := Degree(p); got != len(want)-1 {
			t.Errorf("Degree(%v) = %d, want %d", p, got, len(want)-1)
		}
	}
}

// P7.1: Degree, Trim, At and sums have no limit.
func TestLongRows(t *testing.T) {
	const n = 100000
	p := mixed(n, 9)
	long := padded(p, n)
	if got := Degree(long); got != n-1 {
		t.Errorf("Degree = %d", got)
	}
	mustRow(t, "Trim", Trim(long)[n-3:], row(exact(p[n-3:], 0)))
	if got, want := At(long, 1), left(sumOfAll(p)); got != want {
		t.Errorf("At = %d, want %d", got, want)
	}
	for name, got := range map[string][]uint64{"Add": Add(p, long, p), "Scale": Scale(long, 3), "Sub": Sub(long, Scale(p, prime-2))} {
		if len(got) != n || !slices.Equal(got[n-3:], scaledOf(p[n-3:], 3)) {
			t.Errorf("%s: %d words, %v behind all", name, len(got), got[n-3:])
		}
	}
	if got := Derive(long); len(got) != n-1 || got[n-2] != scaledOf(p[n-1:], n-1)[0] {
		t.Errorf("Derive: %d words", len(got))
	}
	q, r := DivLinear(long, 1)
	if len(q) != n-1 || q[n-2] != row(exact(p[n-1:], 0))[0] || q[0] != left(sumOfAll(p[1:])) || r != left(sumOfAll(p)) {
		t.Errorf("DivLinear: %d words, %d", len(q), r)
	}
}

func sumOfAll(l []uint64) *big.Int {
	sum := new(big.Int)
	for _, a := range l {
		sum.Add(sum, bigOf(a))
	}
	return sum
}

// P7.1: At.
func TestAt(t *testing.T) {
	for _, c := range []struct {
		p       []uint64
		x, want uint64
	}{
		{[]uint64{2, prime - 3, 1}, 0, 2},
		{[]uint64{2, prime - 3, 1}, 1, 0},
		{[]uint64{2, prime - 3, 1}, 2, 0},
		{[]uint64{2, prime - 3, 1}, 5, 12},
		{[]uint64{2, prime - 3, 1}, prime + 5, 12},
		{[]uint64{2, prime - 3, 1, prime}, prime, 2},
		{[]uint64{7}, top, 7},
		{[]uint64{prime + 7}, 3, 7},
		{[]uint64{top}, 0, 1<<32 - 2},
		{[]uint64{0, 1}, top, 1<<32 - 2},
		{[]uint64{1, 10, 100}, 10, 10101},
		{[]uint64{0, 0, 1}, 1 << 32, 1<<32 - 1},
	} {
		if got := At(c.p, c.x); got != c.want {
			t.Errorf("At(%v, %d) = %d, want %d", c.p, c.x, got, c.want)
		}
	}
	for _, p := range someRows() {
		for _, x := range someWords {
			if got, want := At(p, x), valueOf(p, x); got != want {
				t.Errorf("At(%v, %d) = %d, want %d", p, x, got, want)
			}
		}
	}
}

// P7.1: Add, Sub, of rows that are as long and of others.
func TestAddAndSub(t *testing.T) {
	rows := someRows()
	for _, p := range rows {
		mustRow(t, "Add of one", Add(p), row(exact(p, 0)))
		mustRow(t, "Sub from itself", Sub(p, p), nil)
		for _, q := range rows {
			mustRow(t, "Add", Add(p, q), sumOf(p, q))
			mustRow(t, "Sub", Sub(p, q), differenceOf(p, q))
			mustRow(t, "Add of three", Add(p, q, p), sumOf(p, q, p))
		}
	}
	mustRow(t, "Add of all", Add(rows...), sumOf(rows...))
}

func TestAddAndSubAtEdges(t *testing.T) {
	for _, c := range []struct {
		name      string
		got, want []uint64
	}{
		{"of no row", Add(), nil},
		{"of one without words", Add(nil), nil},
		{"of zero polynomials", Add(zeros...), nil},
		{"of a row that isn't trimmed", Add([]uint64{prime + 1, prime - 1, prime, 0}), []uint64{1, prime - 1}},
		{"what takes the last word away", Add([]uint64{1, 2, 3}, []uint64{0, 0, prime - 3}), []uint64{1, 2}},
		{"what takes all away", Add([]uint64{1, 2}, []uint64{prime - 1, prime - 2}), nil},
		{"a shorter row first", Add([]uint64{1}, []uint64{1, 2, 3}), []uint64{2, 2, 3}},
		{"a longer row first", Add([]uint64{1, 2, 3}, []uint64{1}), []uint64{2, 2, 3}},
		{"the middle one longest", Add([]uint64{1}, []uint64{1, 2, 3}, []uint64{1, 1}), []uint64{3, 3, 3}},
		{"great words", Add([]uint64{top}, []uint64{top}, []uint64{top}), []uint64{3 * (1<<32 - 2)}},
		{"words that make P", Add([]uint64{0, prime - 1}, []uint64{4, 1}), []uint64{4}},
		{"nought less a row", Sub(nil, []uint64{1, prime, prime + 2}), []uint64{prime - 1, 0, prime - 2}},
		{"a row less nought", Sub([]uint64{top, prime}, nil), []uint64{1<<32 - 2}},
		{"nought less nought", Sub([]uint64{prime}, []uint64{0, prime}), nil},
		{"the same in the field", Sub([]uint64{1, prime + 2}, []uint64{prime + 1, 2}), nil},
		{"the same last word", Sub([]uint64{5, 6, 7}, []uint64{4, 5, prime + 7}), []uint64{1, 1}},
		{"a longer row taken away", Sub([]uint64{1}, []uint64{0, 0, 1}), []uint64{1, 0, prime - 1}},
	} {
		mustRow(t, c.name, c.got, c.want)
	}
}

// P7.1: Scale.
func TestScale(t *testing.T) {
	for _, p := range someRows() {
		for _, a := range someWords {
			mustRow(t, "Scale", Scale(p, a), scaledOf(p, a))
		}
	}
	for _, c := range []struct {
		p    []uint64
		a    uint64
		want []uint64
	}{
		{[]uint64{1, 2, 3}, 0, nil},
		{[]uint64{1, 2, 3}, prime, nil},
		{[]uint64{1, prime, 3, 0}, 1, []uint64{1, 0, 3}},
		{[]uint64{1, 2, 3, prime}, prime + 2, []uint64{2, 4, 6}},
		{[]uint64{top, 1}, prime - 1, []uint64{prime - (1<<32 - 2), prime - 1}},
		{nil, 5, nil},
	} {
		mustRow(t, "Scale", Scale(c.p, c.a), c.want)
	}
}

// P7.1: Derive.
func TestDerive(t *testing.T) {
	for _, p := range someRows() {
		mustRow(t, "Derive", Derive(p), derivedOf(p))
	}
	for _, p := range zeros {
		mustRow(t, "Derive of the zero polynomial", Derive(p), nil)
	}
	for _, c := range []struct{ p, want []uint64 }{
		{[]uint64{5}, nil},
		{[]uint64{top}, nil},
		{[]uint64{5, 0, prime}, nil},
		{[]uint64{5, 1}, []uint64{1}},
		{[]uint64{5, prime + 1, prime}, []uint64{1}},
		{[]uint64{5, 1, 3, 4}, []uint64{1, 6, 12}},
		{[]uint64{0, 0, (prime + 1) / 2}, []uint64{0, 1}},
		{[]uint64{1, 0, 0, top, 0, prime}, []uint64{0, 0, 3 * (1<<32 - 2)}},
	} {
		mustRow(t, "Derive", Derive(c.p), c.want)
	}
}

// P7.2: Mul.
func TestMul(t *testing.T) {
	for _, p := range someRows() {
		for _, q := range someRows() {
			mustMul(t, p, q, productOf(p, q))
		}
	}
	for _, c := range []struct{ p, q, want []uint64 }{
		{[]uint64{prime - 1, 1}, []uint64{prime - 2, 1}, []uint64{2, prime - 3, 1}},
		{[]uint64{1, 1}, []uint64{1, prime - 1}, []uint64{1, 0, prime - 1}},
		{[]uint64{prime + 3}, []uint64{prime + 5, prime}, []uint64{15}},
		{[]uint64{0, 1, 0}, []uint64{0, 0, 1, prime}, []uint64{0, 0, 0, 1}},
		{[]uint64{top}, []uint64{1, 1}, []uint64{1<<32 - 2, 1<<32 - 2}},
		{[]uint64{0, 1 << 32}, []uint64{1 << 32}, []uint64{0, 1<<32 - 1}},
	} {
		mustMul(t, c.p, c.q, c.want)
		mustMul(t, c.q, c.p, c.want)
	}
	for _, z := range zeros {
		for _, q := range someRows() {
			mustMul(t, z, q, nil)
			mustMul(t, q, z, nil)
		}
	}
}

// ones are n words 1.
func ones(n int) []uint64 {
	return slices.Repeat([]uint64{1}, n)
}

// P7.2: just 4,096 words.
func TestMulOfJustTheLimit(t *testing.T) {
	got, e := Mul(ones(4096), ones(4096))
	if len(got) != 8191 || e != api.OK {
		t.Fatalf("Mul: %d words, %d", len(got), e)
	}
	for i, c := range got {
		if c != uint64(min(i+1, 8191-i)) {
			t.Fatalf("the coefficient at %d is %d", i, c)
		}
	}
	p := mixed(4096, 3)
	mustMul(t, p, []uint64{prime + 1}, row(exact(p, 0)))
	mustMul(t, []uint64{0, 1}, p, append([]uint64{0}, row(exact(p, 0))...))
	mustMul(t, padded([]uint64{1, 2}, 4094), padded([]uint64{1, 3}, 4094), []uint64{1, 5, 6})
	mustMul(t, padded(nil, 4096), p, nil)
}

// P7.2: more than 4,096 words, whatever they are and whatever the other row is.
func TestMulTooLarge(t *testing.T) {
	for _, n := range []int{4097, 4098, 8192, 100000} {
		for _, long := range [][]uint64{make([]uint64, n), padded([]uint64{1}, n-1), ones(n), padded(nil, n)} {
			for _, other := range [][]uint64{nil, {0}, {prime}, {1}, {1, 2, 3}, ones(4096), long} {
				mustNotMul(t, long, other)
				mustNotMul(t, other, long)
			}
		}
	}
}

// P7.2: DivLinear; the quotient times x - a, and the rest, is p, and the rest is p's value.
func TestDivLinear(t *testing.T) {
	for _, p := range someRows() {
		want := row(exact(p, 0))
		for _, a := range someWords {
			q, r := DivLinear(p, a)
			if len(q) != max(0, len(want)-1) || r != valueOf(p, a) {
				t.Errorf("DivLinear(%v, %d) = %v, %d", p, a, q, r)
			}
			mustRow(t, "a trimmed quotient", q, row(exact(q, 0)))
			by := []uint64{left(new(big.Int).Neg(bigOf(a))), 1}
			mustRow(t, "quotient times divisor, and rest", sumOf(productOf(q, by), []uint64{r}), want)
		}
	}
}

func TestDivLinearAtEdges(t *testing.T) {
	for _, p := range zeros {
		for _, a := range someWords {
			mustDivLinear(t, p, a, nil, 0)
		}
	}
	for _, c := range []struct {
		p    []uint64
		a    uint64
		quo  []uint64
		rest uint64
	}{
		{[]uint64{5}, 3, nil, 5},
		{[]uint64{prime + 5, prime, 0}, top, nil, 5},
		{[]uint64{top}, 0, nil, 1<<32 - 2},
		{[]uint64{5, 1}, 0, []uint64{1}, 5},
		{[]uint64{5, 1}, prime, []uint64{1}, 5},
		{[]uint64{5, 1, 0, prime}, 2, []uint64{1}, 7},
		{[]uint64{2, prime - 3, 1}, 1, []uint64{prime - 2, 1}, 0},
		{[]uint64{2, prime - 3, 1, prime}, prime + 2, []uint64{prime - 1, 1}, 0},
		{[]uint64{0, 0, 0, 1}, 2, []uint64{4, 2, 1}, 8},
		{[]uint64{prime, 0, prime, prime + 1}, prime + 2, []uint64{4, 2, 1}, 8},
		{[]uint64{1, 2, 3}, 0, []uint64{2, 3}, 1},
	} {
		mustDivLinear(t, c.p, c.a, c.quo, c.rest)
	}
}

// P7.2 and P7.4: Div; the quotient times q, and the rest, is p, and the rest's degree is below q's.
func TestDiv(t *testing.T) {
	for _, p := range someRows() {
		for _, q := range someRows() {
			by := row(exact(q, 0))
			if len(by) == 0 {
				continue
			}
			quo, rest, e := Div(p, q)
			if e != api.OK || len(rest) >= len(by) {
				t.Fatalf("Div(%v, %v) = %v, %v, %d", p, q, quo, rest, e)
			}
			mustRow(t, "a trimmed quotient", quo, row(exact(quo, 0)))
			mustRow(t, "a trimmed rest", rest, row(exact(rest, 0)))
			mustRow(t, "quotient times divisor, and rest", sumOf(productOf(quo, q), rest), row(exact(p, 0)))
		}
	}
}

func TestDivAtEdges(t *testing.T) {
	half := (prime + 1) / 2
	for _, c := range []struct{ p, q, quo, rest []uint64 }{
		{[]uint64{2, prime - 3, 1}, []uint64{prime - 1, 1}, []uint64{prime - 2, 1}, nil},
		{[]uint64{3, prime - 3, 1}, []uint64{prime - 1, 1}, []uint64{prime - 2, 1}, []uint64{1}},
		{[]uint64{0, 0, 0, 0, 1}, []uint64{1, 0, 1}, []uint64{prime - 1, 0, 1}, []uint64{1}},
		{[]uint64{1, 2, 3}, []uint64{1, 2, 3, 4}, nil, []uint64{1, 2, 3}},
		{[]uint64{prime + 1, 2, 0}, []uint64{0, 0, 1}, nil, []uint64{1, 2}},
		{[]uint64{5}, []uint64{0, 1}, nil, []uint64{5}},
		{[]uint64{5, 0, prime}, []uint64{1, 1, prime}, nil, []uint64{5}},
		{[]uint64{2, 4, 7}, []uint64{2}, []uint64{1, 2, half + 3}, nil},
		{[]uint64{2, prime + 4, 7, prime}, []uint64{prime + 2, prime, 0}, []uint64{1, 2, half + 3}, nil},
		{[]uint64{top}, []uint64{prime + 1}, []uint64{1<<32 - 2}, nil},
		{[]uint64{6}, []uint64{3}, []uint64{2}, nil},
		{[]uint64{1, 2, 3}, []uint64{1, 2, 3}, []uint64{1}, nil},
		{[]uint64{1, 2, 6}, []uint64{1, 2, 3, prime}, []uint64{2}, []uint64{prime - 1, prime - 2}},
		{[]uint64{1, 2, 3, 4}, []uint64{0, 0, prime + 1}, []uint64{3, 4}, []uint64{1, 2}},
		{[]uint64{0, 2, 0, 4}, []uint64{prime, 0, 2, 0}, []uint64{0, 2}, []uint64{0, 2}},
	} {
		mustDiv(t, c.p, c.q, c.quo, c.rest)
	}
	for _, z := range zeros {
		for _, q := range [][]uint64{{1}, {prime + 1}, {0, 1}, {1, 2, 3}, {7, prime}} {
			mustDiv(t, z, q, nil, nil)
		}
	}
}

// P7.2: a product of known rows, and what is less than the divisor, come back, at just 4,096 words, too.
func TestDivOfKnownProducts(t *testing.T) {
	for _, c := range []struct{ quo, by int }{{1, 4096}, {4096, 1}, {2048, 2049}, {4000, 97}, {2, 4095}, {300, 5}} {
		quo, by := row(exact(mixed(c.quo, 1), 0)), row(exact(mixed(c.by, 2), 0))
		rest := row(exact(mixed(c.by-1, 3), 0))
		product, e := Mul(quo, by)
		if e != api.OK {
			t.Fatal(e)
		}
		p := Add(product, rest)
		mustDiv(t, padded(p, 4096-len(p)), padded(by, 4096-len(by)), quo, rest)
	}
}

// P7.2 and R2: ErrZero, ahead of ErrLarge.
func TestDivRefused(t *testing.T) {
	long := [][]uint64{make([]uint64, 4097), ones(4097), padded([]uint64{1}, 4096), ones(100000)}
	for _, z := range append(slices.Clone(zeros), make([]uint64, 4096), padded(nil, 4096), make([]uint64, 4097), padded(nil, 5000)) {
		for _, p := range append(someRows(), long...) {
			mustNotDiv(t, p, z, api.ErrZero)
		}
	}
	for _, p := range long {
		for _, q := range [][]uint64{{1}, {0, 1}, {1, prime}, ones(4096)} {
			mustNotDiv(t, p, q, api.ErrLarge)
		}
	}
	for _, q := range long[1:] {
		for _, p := range [][]uint64{nil, {prime}, {1}, {0, 1}, ones(4096), ones(4097)} {
			mustNotDiv(t, p, q, api.ErrLarge)
		}
	}
}

// P7.3: FromRoots.
func TestFromRoots(t *testing.T) {
	for _, c := range []struct{ l, want []uint64 }{
		{nil, []uint64{1}},
		{[]uint64{0}, []uint64{0, 1}},
		{[]uint64{prime}, []uint64{0, 1}},
		{[]uint64{5}, []uint64{prime - 5, 1}},
		{[]uint64{prime + 5}, []uint64{prime - 5, 1}},
		{[]uint64{prime - 1}, []uint64{1, 1}},
		{[]uint64{top}, []uint64{prime - (1<<32 - 2), 1}},
		{[]uint64{1, 2}, []uint64{2, prime - 3, 1}},
		{[]uint64{2, 1}, []uint64{2, prime - 3, 1}},
		{[]uint64{prime + 2, prime + 1}, []uint64{2, prime - 3, 1}},
		{[]uint64{1, 1, 1}, []uint64{prime - 1, 3, prime - 3, 1}},
		{[]uint64{0, prime, 0, prime}, []uint64{0, 0, 0, 0, 1}},
		{[]uint64{1, prime - 1}, []uint64{prime - 1, 0, 1}},
	} {
		mustRoots(t, c.l, c.want)
	}
	want := []uint64{1}
	for i, a := range someWords {
		want = productOf(want, []uint64{left(new(big.Int).Neg(bigOf(a))), 1})
		mustRoots(t, someWords[:i+1], want)
	}
}

// P7.3: just 1,000 roots, and more.
func TestFromRootsOfJustTheLimit(t *testing.T) {
	mustRoots(t, make([]uint64, 1000), append(make([]uint64, 1000), 1))
	mustRoots(t, padded(nil, 999), append(make([]uint64, 999), 1))
	minus := slices.Repeat([]uint64{prime - 1}, 1000) // 1 + x to the power of 1,000
	var choices []*big.Int
	for i := range int64(1001) {
		choices = append(choices, new(big.Int).Binomial(1000, i))
	}
	mustRoots(t, minus, row(choices))
	roots := mixed(1000, 4)
	p, e := FromRoots(roots...)
	if len(p) != 1001 || p[1000] != 1 || e != api.OK || p[999] != left(new(big.Int).Neg(sumOfAll(roots))) {
		t.Fatalf("FromRoots: %d words, %d", len(p), e)
	}
	for _, a := range roots {
		if At(p, a) != 0 {
			t.Fatalf("%d is no root", a)
		}
	}
	for _, n := range []int{1001, 1002, 2000, 100000} {
		if got, e := FromRoots(make([]uint64, n)...); len(got) != 0 || e != api.ErrLarge {
			t.Errorf("FromRoots of %d: %d words, %d", n, len(got), e)
		}
		if got, e := FromRoots(mixed(n, 1)...); len(got) != 0 || e != api.ErrLarge {
			t.Errorf("FromRoots of %d: %d words, %d", n, len(got), e)
		}
	}
}

// valuesOf are a row's values at each x.
func valuesOf(p, x []uint64) []uint64 {
	y := make([]uint64, len(x))
	for i := range x {
		y[i] = valueOf(p, x[i])
	}
	return y
}

// P7.3: Through has just the polynomial that the points were taken of, if it has fewer words than there are points.
func TestThroughKnownPoints(t *testing.T) {
	x := []uint64{5, 0, prime - 1, prime + 1, 2, 1 << 32, top, 3, prime + 7, 1 << 63}
	for n := range len(x) + 1 {
		for words := range n + 1 {
			p := row(exact(mixed(words, uint64(n)), 0))
			mustThrough(t, x[:n], valuesOf(p, x[:n]), p)
		}
	}
}

func TestThroughAtEdges(t *testing.T) {
	for _, c := range []struct{ x, y, want []uint64 }{
		{nil, nil, nil},
		{[]uint64{}, nil, nil},
		{[]uint64{0}, []uint64{0}, nil},
		{[]uint64{7}, []uint64{prime}, nil},
		{[]uint64{7}, []uint64{5}, []uint64{5}},
		{[]uint64{top}, []uint64{top}, []uint64{1<<32 - 2}},
		{[]uint64{prime}, []uint64{prime + 5}, []uint64{5}},
		{[]uint64{0, 1}, []uint64{0, 1}, []uint64{0, 1}},
		{[]uint64{prime + 1, prime}, []uint64{prime + 1, prime}, []uint64{0, 1}},
		{[]uint64{0, 1}, []uint64{5, prime + 5}, []uint64{5}},
		{[]uint64{1, 2, 3}, []uint64{0, prime, 0}, nil},
		{[]uint64{0, 1, 2}, []uint64{1, 2, 5}, []uint64{1, 0, 1}},
		{[]uint64{2, 0, 1}, []uint64{5, 1, 2}, []uint64{1, 0, 1}},
		{[]uint64{0, 1, 2, 3, 4}, []uint64{1, 3, 5, 7, 9}, []uint64{1, 2}},
		{[]uint64{0, 2}, []uint64{0, 1}, []uint64{0, (prime + 1) / 2}},
	} {
		mustThrough(t, c.x, c.y, c.want)
	}
}

// P7.3: just 256 points.
func TestThroughJustTheLimit(t *testing.T) {
	x := make([]uint64, 256)
	for i := range x {
		x[i] = uint64(i) * 0x9e3779b9
		if i%3 == 0 {
			x[i] = top - uint64(i)
		}
	}
	for _, words := range []int{0, 1, 2, 128, 255, 256} {
		p := row(exact(mixed(words, 5), 0))
		mustThrough(t, x, valuesOf(p, x), p)
	}
	last := slices.Clone(x)
	last[255] = last[0] - prime
	mustNotThrough(t, last, make([]uint64, 256), api.ErrZero)
}

// P7.3 and R2: ErrOdd ahead of ErrLarge ahead of ErrZero.
func TestThroughRefused(t *testing.T) {
	for _, n := range []int{0, 1, 2, 3, 255, 256, 257, 1000, 5000} {
		for _, m := range []int{0, 1, 2, 3, 255, 256, 257, 1000, 5000} {
			if n == m {
				continue
			}
			mustNotThrough(t, make([]uint64, n), make([]uint64, m), api.ErrOdd)
			mustNotThrough(t, mixed(n, 1), mixed(m, 2), api.ErrOdd)
		}
	}
	for _, n := range []int{257, 258, 1000, 1001, 5000} {
		mustNotThrough(t, make([]uint64, n), make([]uint64, n), api.ErrLarge)
		mustNotThrough(t, mixed(n, 1), mixed(n, 2), api.ErrLarge)
	}
	for _, x := range [][]uint64{{0, 0}, {0, prime}, {prime, prime}, {1, prime + 1}, {top, 1<<32 - 2}, {1, 2, 1}, {1, 2, 3, prime + 3}, {5, 5, 6, 7}, make([]uint64, 256)} {
		mustNotThrough(t, x, make([]uint64, len(x)), api.ErrZero) // even where the y are the same
		mustNotThrough(t, x, mixed(len(x), 1), api.ErrZero)
	}
}

// P7.4: a product's value is the values' product; a sum's is the values' sum.
func TestValuesOfProductsAndSums(t *testing.T) {
	for _, n := range []int{1, 2, 40, 4096} {
		p, q := mixed(n, 6), mixed(n, 7)
		product, e := Mul(p, q)
		if e != api.OK {
			t.Fatal(e)
		}
		for _, x := range someWords {
			a, b := bigOf(valueOf(p, x)), bigOf(valueOf(q, x))
			if got, want := At(product, x), left(new(big.Int).Mul(a, b)); got != want {
				t.Errorf("a product of %d words at %d is %d, want %d", n, x, got, want)
			}
			if got, want := At(Add(p, q), x), left(new(big.Int).Add(a, b)); got != want {
				t.Errorf("a sum of %d words at %d is %d, want %d", n, x, got, want)
			}
		}
	}
}

// P7.4: p is the quotient times q, and the rest, word by word, by the package's own sums and products.
func TestQuotientsGoBack(t *testing.T) {
	for _, c := range []struct{ p, q int }{{1, 1}, {10, 3}, {100, 99}, {100, 100}, {100, 101}, {4096, 1}, {4096, 2}, {4096, 2000}, {4096, 4096}, {1, 4096}} {
		p, q := mixed(c.p, 8), mixed(c.q, 9)
		quo, rest, e := Div(p, q)
		if e != api.OK || Degree(rest) >= Degree(q) {
			t.Fatalf("Div of %d by %d words: %d", c.p, c.q, e)
		}
		back, e := Mul(quo, q)
		if e != api.OK || !slices.Equal(Add(back, rest), Trim(p)) {
			t.Errorf("%d words divided by %d don't come back", c.p, c.q)
		}
	}
}

// answers are all rows that the calls answer of two rows, each of which is a polynomial, roots and points.
func answers(p, q []uint64) [][]uint64 {
	all := [][]uint64{Trim(p), Add(p), Add(p, q), Add(p, q, p), Sub(p, q), Sub(p, nil), Sub(nil, p), Scale(p, 1), Scale(p, 9), Derive(p)}
	product, _ := Mul(p, q)
	same, _ := Mul(p, []uint64{1})
	linear, _ := DivLinear(p, 3)
	quo, rest, _ := Div(p, q)
	none, whole, _ := Div(q, p)
	whole2, none2, _ := Div(p, []uint64{1})
	roots, _ := FromRoots(p...)
	through, _ := Through(p[:min(len(p), len(q))], q[:min(len(p), len(q))])
	return append(all, product, same, linear, quo, rest, none, whole, whole2, none2, roots, through)
}

// R4 and R8: what is handed in stays as it is, what lies behind its length is neither read nor written, and answers are new.
func TestWordsStayAsTheyAre(t *testing.T) {
	for _, lengths := range [][2]int{{0, 0}, {0, 1}, {1, 1}, {2, 1}, {7, 3}, {8, 8}, {3, 7}, {12, 4}} {
		memory := mixed(32, 11)
		before := slices.Clone(memory)
		p, q := memory[:lengths[0]], memory[16:16+lengths[1]]
		first := answers(p, q)
		if !slices.Equal(memory, before) {
			t.Fatalf("%v: the words became %v", lengths, memory)
		}
		var kept [][]uint64
		for _, l := range first {
			kept = append(kept, slices.Clone(l))
		}
		for i, l := range first {
			if !slices.Equal(l, kept[i]) { // the answers are gone through one by one: none shares memory with another
				t.Errorf("%v: answer %d was written over with another one", lengths, i)
			}
			l = l[:cap(l)]
			for j := range l {
				l[j] = top
			}
		}
		if !slices.Equal(memory, before) {
			t.Fatalf("%v: the words became %v behind writes into answers", lengths, memory)
		}
		for i := lengths[0]; i < 16; i++ {
			memory[i] ^= 1 << 40
		}
		for i, l := range answers(p, q) {
			if !slices.Equal(l, kept[i]) {
				t.Errorf("%v: answer %d is %v, want %v", lengths, i, l, kept[i])
			}
		}
	}
}

// R4: the list of rows that a sum is made of stays as it is, too.
func TestListsOfRowsStayAsTheyAre(t *testing.T) {
	rows := [][]uint64{{1, 2, prime}, nil, {prime}, {top, 0}, {4, 5, 6, 7}}
	Add(rows[:3]...)
	Add(rows...)
	for i, want := range [][]uint64{{1, 2, prime}, nil, {prime}, {top, 0}, {4, 5, 6, 7}} {
		mustRow(t, "a row", rows[i], want)
	}
}

// P1: calls end and none panics, whatever rows and words come together.
func TestAnyArgument(t *testing.T) {
	rows := append(someRows(), make([]uint64, 300), ones(300), mixed(257, 1), make([]uint64, 4097), padded([]uint64{1}, 5000))
	for _, p := range rows {
		for _, x := range someWords {
			At(p, x)
			Scale(p, x)
			DivLinear(p, x)
		}
		for _, q := range rows {
			answers(p, q)
			Through(p, q)
			Through(q, p)
		}
	}
}

// The rules that the tests go by are the document's own: they are held against what is written out by hand.
func TestTheTestsOwnRules(t *testing.T) {
	mustRow(t, "productOf", productOf([]uint64{prime - 1, 1}, []uint64{prime - 2, 1}), []uint64{2, prime - 3, 1})
	mustRow(t, "derivedOf", derivedOf([]uint64{5, 1, 3, 4, prime}), []uint64{1, 6, 12})
	mustRow(t, "sumOf", sumOf([]uint64{1, 2}, []uint64{prime, prime - 2}), []uint64{1})
	mustRow(t, "differenceOf", differenceOf([]uint64{1}, []uint64{1, prime + 1}), []uint64{0, prime - 1})
	mustRow(t, "scaledOf", scaledOf([]uint64{1, 2, prime}, 3), []uint64{3, 6})
	mustRow(t, "padded", padded([]uint64{1}, 3), []uint64{1, 0, prime, 0})
	if valueOf([]uint64{1, 10, 100, prime}, 10) != 10101 {
		t.Error("valueOf tells another value")
	}
}
