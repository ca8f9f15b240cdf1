package gold

import (
	"math"
	"math/big"
	"slices"
	"testing"

	"abacist/api"
)

const (
	prime = api.P
	top   = uint64(math.MaxUint64)
)

// mixed are n words that a fixed rule mixes.
func mixed(n int) []uint64 {
	l := make([]uint64, n)
	w := uint64(1)
	for i := range l {
		w = w*6364136223846793005 + 1442695040888963407
		l[i] = w ^ w>>29
	}
	return l
}

// someWords are edges of the field and of words, from P on too, and mixed ones.
func someWords() []uint64 {
	l := []uint64{
		0, 1, 2, 3, 7, 1<<31 - 1, 1 << 31, 1<<32 - 2, 1<<32 - 1, 1 << 32, 1<<32 + 1, 1<<63 - 1, 1 << 63, 1<<63 + 1,
		(prime - 1) / 2, (prime + 1) / 2, prime - 1<<32, prime - 2, prime - 1, prime, prime + 1, prime + 2, prime + 1<<31, top - 1, top,
	}
	return append(l, mixed(8)...)
}

func bigOf(a uint64) *big.Int {
	return new(big.Int).SetUint64(a)
}

// left is what n leaves, divided by P (of n below 0 too).
func left(n *big.Int) uint64 {
	return new(big.Int).Mod(n, bigOf(prime)).Uint64()
}

// P2.1: Good, Of.
func TestGoodAndOf(t *testing.T) {
	for _, c := range []struct {
		a    uint64
		good bool
		of   uint64
	}{
		{0, true, 0},
		{1, true, 1},
		{1<<64 - 1<<32, true, prime - 1},
		{prime - 1, true, prime - 1},
		{prime, false, 0},
		{prime + 1, false, 1},
		{top - 1, false, 1<<32 - 3},
		{top, false, 1<<32 - 2},
	} {
		if got := Good(c.a); got != c.good {
			t.Errorf("Good(%d) = %v", c.a, got)
		}
		if got := Of(c.a); got != c.of {
			t.Errorf("Of(%d) = %d, want %d", c.a, got, c.of)
		}
	}
	for _, a := range someWords() {
		if got, want := Of(a), left(bigOf(a)); got != want || !Good(got) {
			t.Errorf("Of(%d) = %d, want %d", a, got, want)
		}
		if got, want := Good(a), bigOf(a).Cmp(bigOf(prime)) < 0; got != want {
			t.Errorf("Good(%d) = %v", a, got)
		}
	}
}

// P2.1: Reduce.
func TestReduceIsTheRest(t *testing.T) {
	for _, hi := range someWords() {
		for _, lo := range someWords() {
			n := bigOf(hi)
			n.Lsh(n, 64).Add(n, bigOf(lo))
			if got, want := Reduce(api.Wide{Hi: hi, Lo: lo}), left(n); got != want {
				t.Fatalf("Reduce(%d, %d) = %d, want %d", hi, lo, got, want)
			}
		}
	}
}

func TestReduceAtEdges(t *testing.T) {
	for _, c := range []struct {
		w    api.Wide
		want uint64
	}{
		{api.Wide{}, 0},
		{api.Wide{Lo: prime - 1}, prime - 1},
		{api.Wide{Lo: prime}, 0},
		{api.Wide{Lo: top}, 1<<32 - 2},
		{api.Wide{Hi: 1}, 1<<32 - 1},
		{api.Wide{Hi: 1 << 32}, prime - 1},                      // 2^96 is -1
		{api.Wide{Hi: 1 << 32, Lo: 1}, 0},                       // the same and 1, without a borrow
		{api.Wide{Hi: 1<<32 - 1, Lo: top}, prime - 2},           // 2^96 - 1, with a carry
		{api.Wide{Hi: 1<<64 - 1<<32}, prime - (1<<32 - 1)},      // 2^32 - 1 times 2^96, with a borrow
		{api.Wide{Hi: top}, prime - (1<<33 - 1)},                // 2^128 - 2^64, with a borrow and a carry
		{api.Wide{Hi: top, Lo: top}, prime - (1<<32 + 1)},       // 2^128 is -2^32
		{api.Wide{Hi: prime - 1, Lo: prime - 1}, prime - 1<<32}, // 2^64 + 1 is 2^32
	} {
		if got := Reduce(c.w); got != c.want {
			t.Errorf("Reduce(%v) = %d, want %d", c.w, got, c.want)
		}
	}
}

// P2.1: Add, Sub, Neg, Mul, of canonical words and of those from P on.
func TestAddSubNegMulAsExactNumbers(t *testing.T) {
	for _, a := range someWords() {
		x := bigOf(a)
		if got, want := Neg(a), left(new(big.Int).Neg(x)); got != want {
			t.Fatalf("Neg(%d) = %d, want %d", a, got, want)
		}
		for _, b := range someWords() {
			y := bigOf(b)
			if got, want := Add(a, b), left(new(big.Int).Add(x, y)); got != want {
				t.Fatalf("Add(%d, %d) = %d, want %d", a, b, got, want)
			}
			if got, want := Sub(a, b), left(new(big.Int).Sub(x, y)); got != want {
				t.Fatalf("Sub(%d, %d) = %d, want %d", a, b, got, want)
			}
			if got, want := Mul(a, b), left(new(big.Int).Mul(x, y)); got != want {
				t.Fatalf("Mul(%d, %d) = %d, want %d", a, b, got, want)
			}
		}
	}
}

func TestAddSubNegMulAtEdges(t *testing.T) {
	for _, c := range []struct {
		name      string
		got, want uint64
	}{
		{"Mul(2^32, 2^32)", Mul(1<<32, 1<<32), 1<<32 - 1},
		{"Mul(P - 1, P - 1)", Mul(prime-1, prime-1), 1},
		{"Mul(P, top)", Mul(prime, top), 0},
		{"Mul(top, top)", Mul(top, top), left(new(big.Int).Exp(bigOf(1<<32-2), big.NewInt(2), nil))},
		{"Add(P - 1, 1)", Add(prime-1, 1), 0},
		{"Add(P - 1, P - 1)", Add(prime-1, prime-1), prime - 2},
		{"Add(P, P)", Add(prime, prime), 0},
		{"Add(top, top)", Add(top, top), 1<<33 - 4},
		{"Add((P - 1)/2, (P + 1)/2)", Add((prime-1)/2, (prime+1)/2), 0},
		{"Sub(0, 0)", Sub(0, 0), 0},
		{"Sub(0, 1)", Sub(0, 1), prime - 1},
		{"Sub(0, P)", Sub(0, prime), 0},
		{"Sub(P, 0)", Sub(prime, 0), 0},
		{"Sub(P, P - 1)", Sub(prime, prime-1), 1},
		{"Sub(1, top)", Sub(1, top), prime - (1<<32 - 3)},
		{"Neg(0)", Neg(0), 0},
		{"Neg(1)", Neg(1), prime - 1},
		{"Neg(P - 1)", Neg(prime - 1), 1},
		{"Neg(P)", Neg(prime), 0},
		{"Neg(P + 1)", Neg(prime + 1), prime - 1},
		{"Neg(top)", Neg(top), prime - (1<<32 - 2)},
	} {
		if c.got != c.want {
			t.Errorf("%s = %d, want %d", c.name, c.got, c.want)
		}
	}
}

// P2.1: Pow.
func TestPowAsExactNumbers(t *testing.T) {
	for _, a := range someWords() {
		for _, n := range someWords() {
			want := new(big.Int).Exp(bigOf(a), bigOf(n), bigOf(prime)).Uint64()
			if got := Pow(a, n); got != want {
				t.Fatalf("Pow(%d, %d) = %d, want %d", a, n, got, want)
			}
		}
	}
}

func TestPowAtEdges(t *testing.T) {
	for _, c := range []struct{ a, n, want uint64 }{
		{0, 0, 1},
		{prime, 0, 1},
		{top, 0, 1},
		{5, 0, 1},
		{0, 1, 0},
		{0, prime - 1, 0},
		{0, top, 0},
		{prime, 3, 0},
		{prime + 5, 1, 5},
		{top, 1, 1<<32 - 2},
		{1, top, 1},
		{prime - 1, top, prime - 1},
		{prime - 1, top - 1, 1},
		{2, 96, prime - 1},
		{2, 192, 1},
		{api.G, (prime - 1) / 2, prime - 1},
		{3, prime, 3}, // the exponent is no word of the field
	} {
		if got := Pow(c.a, c.n); got != c.want {
			t.Errorf("Pow(%d, %d) = %d, want %d", c.a, c.n, got, c.want)
		}
	}
}

// P2.2: Inv, Div.
func TestInvAndDivGoBack(t *testing.T) {
	for _, b := range someWords() {
		if left(bigOf(b)) == 0 {
			continue
		}
		i, e := Inv(b)
		want := new(big.Int).ModInverse(bigOf(b), bigOf(prime)).Uint64()
		if i != want || e != api.OK || Mul(i, b) != 1 {
			t.Fatalf("Inv(%d) = %d, %d, want %d", b, i, e, want)
		}
		for _, a := range someWords() {
			q, e := Div(a, b)
			if e != api.OK || !Good(q) || Mul(q, b) != Of(a) {
				t.Fatalf("Div(%d, %d) = %d, %d", a, b, q, e)
			}
		}
	}
}

func TestInvAndDivAtEdges(t *testing.T) {
	for _, c := range []struct{ a, want uint64 }{
		{1, 1},
		{2, (prime + 1) / 2},
		{prime - 1, prime - 1},
		{prime + 1, 1},
		{prime + 2, (prime + 1) / 2},
	} {
		if got, e := Inv(c.a); got != c.want || e != api.OK {
			t.Errorf("Inv(%d) = %d, %d, want %d", c.a, got, e, c.want)
		}
	}
	for _, c := range []struct{ a, b, want uint64 }{
		{6, 3, 2},
		{0, 5, 0},
		{prime, 5, 0},
		{prime + 6, prime + 3, 2},
		{1, 2, (prime + 1) / 2},
		{top, top, 1},
		{top, prime + 1, 1<<32 - 2},
	} {
		if got, e := Div(c.a, c.b); got != c.want || e != api.OK {
			t.Errorf("Div(%d, %d) = %d, %d, want %d", c.a, c.b, got, e, c.want)
		}
	}
}

// P2.2 and R3: of 0 in the field there is none, and 0 stands beside ErrZero.
func TestNothingIsDividedByZero(t *testing.T) {
	for _, zero := range []uint64{0, prime} {
		if i, e := Inv(zero); i != 0 || e != api.ErrZero {
			t.Errorf("Inv(%d) = %d, %d", zero, i, e)
		}
		for _, a := range someWords() {
			if q, e := Div(a, zero); q != 0 || e != api.ErrZero {
				t.Errorf("Div(%d, %d) = %d, %d", a, zero, q, e)
			}
		}
	}
}

// P2.3: Sum, Product.
func TestSumAndProductOfAll(t *testing.T) {
	sum, product := new(big.Int), big.NewInt(1)
	var l []uint64
	for _, a := range slices.Concat(someWords(), mixed(40)) {
		if left(bigOf(a)) == 0 { // the product would stay 0
			continue
		}
		l = append(l, a)
		sum.Add(sum, bigOf(a))
		product.Mul(product, bigOf(a))
		if got := Sum(l...); got != left(sum) {
			t.Fatalf("Sum(%v) = %d, want %d", l, got, left(sum))
		}
		if got := Product(l...); got != left(product) {
			t.Fatalf("Product(%v) = %d, want %d", l, got, left(product))
		}
	}
}

func TestSumAndProductAtEdges(t *testing.T) {
	for _, c := range []struct {
		l            []uint64
		sum, product uint64
	}{
		{nil, 0, 1},
		{[]uint64{}, 0, 1},
		{[]uint64{5}, 5, 5},
		{[]uint64{prime}, 0, 0},
		{[]uint64{top}, 1<<32 - 2, 1<<32 - 2},
		{[]uint64{prime - 1, 2, 3}, 4, prime - 6},
		{[]uint64{prime - 1, prime - 1}, prime - 2, 1},
		{[]uint64{2, prime, 7}, 9, 0},
	} {
		if got := Sum(c.l...); got != c.sum {
			t.Errorf("Sum(%v) = %d, want %d", c.l, got, c.sum)
		}
		if got := Product(c.l...); got != c.product {
			t.Errorf("Product(%v) = %d, want %d", c.l, got, c.product)
		}
	}
}

// dotOf is the sum of products by exact numbers.
func dotOf(a, b []uint64) uint64 {
	s := new(big.Int)
	for i := range a {
		s.Add(s, new(big.Int).Mul(bigOf(a[i]), bigOf(b[i])))
	}
	return left(s)
}

// P2.3: Dot.
func TestDotIsTheSumOfProducts(t *testing.T) {
	for _, c := range [][2][]uint64{
		{nil, nil},
		{{}, nil},
		{{3}, {5}},
		{{0, prime, 0}, {top, top, 0}},
		{{1, 2, 3}, {4, 5, 6}},
		{{prime - 1}, {prime - 1}},
		{slices.Repeat([]uint64{prime - 1}, 9), slices.Repeat([]uint64{prime - 1}, 9)},
		{slices.Repeat([]uint64{top}, 2), slices.Repeat([]uint64{top}, 2)}, // the first carry beyond 128 bits
		{slices.Repeat([]uint64{top}, 3), slices.Repeat([]uint64{top}, 3)},
		{slices.Repeat([]uint64{top}, 5000), slices.Repeat([]uint64{top}, 5000)},
		{mixed(1000), slices.Concat(someWords(), mixed(1000))[:1000]},
		{someWords(), mixed(len(someWords()))},
	} {
		if got, e := Dot(c[0], c[1]); got != dotOf(c[0], c[1]) || e != api.OK {
			t.Errorf("Dot(%v, %v) = %d, %d, want %d", c[0], c[1], got, e, dotOf(c[0], c[1]))
		}
	}
}

// P2.3 and R3: lists that aren't as long.
func TestDotOfOtherLengths(t *testing.T) {
	for _, c := range [][2][]uint64{
		{nil, {1}},
		{{1}, nil},
		{{1, 2}, {1, 2, 3}},
		{{1, 2, 3}, {1, 2}},
		{{1, 2, 3}, {1, 2, 3, 0}},
	} {
		if got, e := Dot(c[0], c[1]); got != 0 || e != api.ErrOdd {
			t.Errorf("Dot(%v, %v) = %d, %d", c[0], c[1], got, e)
		}
	}
}

// P2.3: Invs.
func TestInvsOfAll(t *testing.T) {
	var all []uint64
	for _, a := range slices.Concat(someWords(), mixed(100)) {
		if left(bigOf(a)) != 0 {
			all = append(all, a)
		}
	}
	for n := range len(all) + 1 {
		want := make([]uint64, n)
		for i, a := range all[:n] {
			want[i] = new(big.Int).ModInverse(bigOf(a), bigOf(prime)).Uint64()
		}
		if out, at, e := Invs(all[:n]); !slices.Equal(out, want) || at != 0 || e != api.OK {
			t.Fatalf("Invs(%v) = %v, %d, %d, want %v", all[:n], out, at, e, want)
		}
	}
}

// P2.3 and R3: beside ErrZero stands the place of the first that has none, and no list.
func TestInvsTellsTheFirstWithoutOne(t *testing.T) {
	for _, c := range []struct {
		l  []uint64
		at int
	}{
		{[]uint64{0}, 0},
		{[]uint64{prime}, 0},
		{[]uint64{0, 1}, 0},
		{[]uint64{1, prime, 0}, 1},
		{[]uint64{1, 0, prime}, 1},
		{[]uint64{1, 2, 3, 0}, 3},
		{[]uint64{1, 2, 3, prime}, 3},
		{[]uint64{prime + 1, top, prime, 5, 0}, 2},
	} {
		if out, at, e := Invs(c.l); len(out) != 0 || at != c.at || e != api.ErrZero {
			t.Errorf("Invs(%v) = %v, %d, %d, want the place %d", c.l, out, at, e, c.at)
		}
	}
}

// R4: lists stay as they are, what lies behind their length is neither read nor written, and answers are new.
func TestListsStayAsTheyAre(t *testing.T) {
	memory := []uint64{2, top, prime + 3, 0, 9}
	other := []uint64{5, prime + 1, 4, 8, 0}
	before, otherBefore := slices.Clone(memory), slices.Clone(other)
	l := memory[:3]
	if got := Sum(l...); got != 2+(1<<32-2)+3 {
		t.Errorf("Sum = %d", got)
	}
	if got := Product(l...); got != 6*(1<<32-2) {
		t.Errorf("Product = %d", got)
	}
	if got, e := Dot(l, other[:3]); got != 10+(1<<32-2)+12 || e != api.OK {
		t.Errorf("Dot = %d, %d", got, e)
	}
	out, at, e := Invs(l)
	if len(out) != 3 || at != 0 || e != api.OK {
		t.Fatalf("Invs = %v, %d, %d", out, at, e)
	}
	Invs(memory)
	Invs(other)
	clear(out[:cap(out)])
	if !slices.Equal(memory, before) || !slices.Equal(other, otherBefore) {
		t.Errorf("the lists became %v and %v", memory, other)
	}
}

// P2.4: sums and products don't hang on order or brackets, and products share out over sums.
func TestLawsOfSumsAndProducts(t *testing.T) {
	for _, a := range someWords() {
		for _, b := range someWords() {
			if Add(a, b) != Add(b, a) || Mul(a, b) != Mul(b, a) {
				t.Fatalf("%d and %d: the order tells", a, b)
			}
			if Sub(a, b) != Add(a, Neg(b)) || Add(Sub(a, b), b) != Of(a) {
				t.Fatalf("%d and %d: the difference doesn't go back", a, b)
			}
			for _, c := range someWords() {
				if Add(Add(a, b), c) != Add(a, Add(b, c)) || Mul(Mul(a, b), c) != Mul(a, Mul(b, c)) {
					t.Fatalf("%d, %d and %d: the brackets tell", a, b, c)
				}
				if Mul(a, Add(b, c)) != Add(Mul(a, b), Mul(a, c)) {
					t.Fatalf("%d, %d and %d: the product isn't shared out", a, b, c)
				}
			}
		}
	}
}

func TestLawsOfZeroAndOne(t *testing.T) {
	for _, a := range someWords() {
		if Add(a, 0) != Of(a) || Mul(a, 1) != Of(a) || Mul(a, 0) != 0 || Add(a, Neg(a)) != 0 {
			t.Errorf("%d: the laws of 0 and 1", a)
		}
	}
}

func TestOrderOfManyTellsNothing(t *testing.T) {
	l := slices.Concat(mixed(50), []uint64{prime - 1, prime + 1, top})
	turned := slices.Clone(l)
	slices.Reverse(turned)
	if Sum(l...) != Sum(turned...) || Product(l...) != Product(turned...) {
		t.Error("the order of many tells")
	}
	if Sum(l...) != Add(Sum(l[:20]...), Sum(l[20:]...)) || Product(l...) != Mul(Product(l[:20]...), Product(l[20:]...)) {
		t.Error("the brackets of many tell")
	}
}

// P2.4: Pow(a, P - 1) is 1 of each a but 0.
func TestPowOfPLessOne(t *testing.T) {
	for _, a := range slices.Concat(someWords(), mixed(100)) {
		want := uint64(1)
		if left(bigOf(a)) == 0 {
			want = 0
		}
		if got := Pow(a, prime-1); got != want {
			t.Errorf("Pow(%d, P - 1) = %d, want %d", a, got, want)
		}
	}
}
