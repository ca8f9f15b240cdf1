package twid

import (
	"math"
	"math/big"
	"slices"
	"testing"

	"abacist/api"
	"abacist/gold"
	"abacist/poly"
	"abacist/root"
	"abacist/shape"
)

const (
	prime = api.P
	top   = uint64(math.MaxUint64)
	last  = 1<<32 - 1 // the greatest row or column that a twiddle is of
)

// badExponents are those that no root has.
var badExponents = []int{-1, -2, -20, -32, -33, -64, 33, 34, 63, 64, 65, 1 << 32, 1 << 62, math.MaxInt, math.MinInt, math.MinInt + 1}

// badDirections are numbers that are no direction; some of them leave one, if but their lowest bits are looked at.
var badDirections = []int{-1, -2, 2, 3, 4, 256, 257, 1 << 32, 1<<32 + 1, 1 << 62, math.MaxInt, math.MinInt, math.MinInt + 1}

// badPlaces are rows and columns that no twiddle is of.
var badPlaces = []int{-1, -2, -1 << 32, -last, last + 1, last + 2, 1 << 33, 1 << 62, math.MaxInt, math.MaxInt - 1, math.MinInt, math.MinInt + 1}

// somePlaces are edges among those that a twiddle is of.
var somePlaces = []int{0, 1, 2, 3, 5, 1 << 10, 1<<16 - 1, 1 << 16, 0x12345678, 1 << 31, last - 2, last - 1, last}

// someWords are edges of the field and of words, from P on too.
var someWords = []uint64{0, 1, 2, 3, 7, 1<<32 - 1, 1 << 32, 1 << 48, 1 << 63, prime - 2, prime - 1, prime, prime + 1, prime + 2, top - 1, top}

var directions = []int{api.Forward, api.Inverse}

// mixed are n words that a fixed rule mixes, some of them from P on.
func mixed(n int, seed uint64) []uint64 {
	l := make([]uint64, n)
	w := seed
	for i := range l {
		w = w*6364136223846793005 + 1442695040888963407
		l[i] = w ^ w>>29
		if i%5 == 3 {
			l[i] = prime + w>>33
		}
	}
	return l
}

// alike are n words that are the same.
func alike(n int, w uint64) []uint64 {
	return slices.Repeat([]uint64{w}, n)
}

// pulse is n words of which all are 0 but the one at a place.
func pulse(n, at int, w uint64) []uint64 {
	l := make([]uint64, n)
	l[at] = w
	return l
}

// someRows are rows of n words.
func someRows(n int) [][]uint64 {
	return [][]uint64{
		make([]uint64, n), alike(n, 1), alike(n, prime-1), alike(n, prime), alike(n, top),
		pulse(n, 0, 1), pulse(n, n-1, 1), pulse(n, n/2, prime-1), pulse(n, n-1, top),
		mixed(n, 1), mixed(n, 2),
	}
}

// canonical is what each word of a row leaves.
func canonical(l []uint64) []uint64 {
	out := slices.Clone(l)
	for i := range out {
		out[i] %= prime
	}
	return out
}

func tileOf(rows, cols, row, col int) api.Tile {
	return api.Tile{Shape: api.Shape{Rows: rows, Cols: cols}, Row: row, Col: col}
}

func bigOf(a uint64) *big.Int {
	return new(big.Int).SetUint64(a)
}

func left(n *big.Int) uint64 {
	return new(big.Int).Mod(n, bigOf(prime)).Uint64()
}

func inverseOf(a uint64) uint64 {
	return new(big.Int).ModInverse(bigOf(a), bigOf(prime)).Uint64()
}

func timesOf(a, b uint64) uint64 {
	return left(new(big.Int).Mul(bigOf(a), bigOf(b)))
}

// rootOf is 7 to the power of (P - 1) / 2^k by exact numbers, or its inverse.
func rootOf(k, dir int) uint64 {
	w := new(big.Int).Exp(big.NewInt(7), bigOf((prime-1)/(1<<k)), bigOf(prime)).Uint64()
	if dir == api.Inverse {
		return inverseOf(w)
	}
	return w
}

// twiddleOf is the root to the power of a product of exact numbers.
func twiddleOf(a, b, k, dir int) uint64 {
	n := new(big.Int).Mul(big.NewInt(int64(a)), big.NewInt(int64(b)))
	return new(big.Int).Exp(bigOf(rootOf(k, dir)), n, bigOf(prime)).Uint64()
}

// tileTimes is a tile's words, each times the twiddle of its own row and column.
func tileTimes(l []uint64, t api.Tile, k, dir int) []uint64 {
	out := make([]uint64, len(l))
	for i, w := range l {
		out[i] = timesOf(w, twiddleOf(t.Row+i/t.Cols, t.Col+i%t.Cols, k, dir))
	}
	return out
}

// transformOf is the transform as the document says it, by exact sums.
func transformOf(l []uint64, dir int) []uint64 {
	k := slices.Index(powersOfTwo(), len(l))
	var powers []*big.Int // of the root: those from 2^k on come again
	for i := range l {
		powers = append(powers, bigOf(twiddleOf(i, 1, k, dir)))
	}
	share := uint64(1)
	if dir == api.Inverse {
		share = inverseOf(uint64(len(l)))
	}
	out := make([]uint64, len(l))
	term := new(big.Int)
	for j := range l {
		sum := new(big.Int)
		for i, w := range l {
			sum.Add(sum, term.Mul(powers[i*j%len(l)], term.SetUint64(w)))
		}
		out[j] = timesOf(left(sum), share)
	}
	return out
}

// powersOfTwo are 1, 2, 4 and so on to 2^20, each at the place of its exponent.
func powersOfTwo() []int {
	var l []int
	for k := range 21 {
		l = append(l, 1<<k)
	}
	return l
}

func mustWord(t *testing.T, name string, got uint64, e api.Errno, want uint64, wantE api.Errno) {
	t.Helper()
	if got != want || e != wantE {
		t.Errorf("%s = %d, %d, want %d, %d", name, got, e, want, wantE)
	}
}

// mustWords holds a call's words against those that are asked for, and no words beside an error (R3).
func mustWords(t *testing.T, name string, got []uint64, e api.Errno, want []uint64, wantE api.Errno) {
	t.Helper()
	if e != wantE || len(got) != len(want) {
		t.Errorf("%s: %d words, %d, want %d, %d", name, len(got), e, len(want), wantE)
		return
	}
	for i, w := range want {
		if got[i] != w {
			t.Errorf("%s: %d at %d, want %d", name, got[i], i, w)
			return
		}
	}
}

func mustRoot(t *testing.T, k, dir int, want uint64, wantE api.Errno) {
	t.Helper()
	got, e := Root(k, dir)
	mustWord(t, "Root", got, e, want, wantE)
}

func mustTable(t *testing.T, k, dir int, want []uint64, wantE api.Errno) {
	t.Helper()
	got, e := Table(k, dir)
	mustWords(t, "Table", got, e, want, wantE)
}

func mustShare(t *testing.T, k int, want uint64, wantE api.Errno) {
	t.Helper()
	got, e := Share(k)
	mustWord(t, "Share", got, e, want, wantE)
}

func mustTwiddle(t *testing.T, a, b, k, dir int, want uint64, wantE api.Errno) {
	t.Helper()
	if got, e := Twiddle(a, b, k, dir); got != want || e != wantE {
		t.Errorf("Twiddle(%d, %d, %d, %d) = %d, %d, want %d, %d", a, b, k, dir, got, e, want, wantE)
	}
}

func mustTile(t *testing.T, l []uint64, tile api.Tile, k, dir int, want []uint64, wantE api.Errno) {
	t.Helper()
	got, e := Tile(l, tile, k, dir)
	if !slices.Equal(got, want) || e != wantE {
		t.Errorf("Tile(%d words, %+v, %d, %d): %d words, %d, want %d, %d", len(l), tile, k, dir, len(got), e, len(want), wantE)
	}
}

func mustSlow(t *testing.T, l []uint64, dir int, want []uint64, wantE api.Errno) {
	t.Helper()
	got, e := Slow(l, dir)
	mustWords(t, "Slow", got, e, want, wantE)
}

// goodSlow is the transform that Slow tells, of a row that has one.
func goodSlow(t *testing.T, l []uint64, dir int) []uint64 {
	t.Helper()
	got, e := Slow(l, dir)
	if e != api.OK || len(got) != len(l) {
		t.Fatalf("Slow of %d words, %d: %d words, %d", len(l), dir, len(got), e)
	}
	return got
}

// P8.1: Root, of each exponent and both directions.
func TestRoot(t *testing.T) {
	for k := range 33 {
		for _, dir := range directions {
			mustRoot(t, k, dir, rootOf(k, dir), api.OK)
		}
		forward, _ := Root(k, api.Forward)
		inverse, _ := Root(k, api.Inverse)
		if timesOf(forward, inverse) != 1 {
			t.Errorf("Root(%d) and its inverse have another product than 1", k)
		}
	}
}

func TestRootAtEdges(t *testing.T) {
	for _, c := range []struct {
		k, dir int
		want   uint64
	}{
		{0, api.Forward, 1},
		{0, api.Inverse, 1},
		{1, api.Forward, prime - 1},
		{1, api.Inverse, prime - 1},
		{2, api.Forward, 1 << 48},
		{2, api.Inverse, prime - 1<<48},
		{32, api.Forward, 1753635133440165772},
		{32, api.Inverse, inverseOf(1753635133440165772)},
	} {
		mustRoot(t, c.k, c.dir, c.want, api.OK)
	}
}

// P8.1, R2 and R3: ErrArg ahead of ErrKind, and 0 beside both.
func TestRootRefused(t *testing.T) {
	for _, dir := range slices.Concat(directions, badDirections) {
		for _, k := range badExponents {
			mustRoot(t, k, dir, 0, api.ErrArg)
		}
	}
	for _, dir := range badDirections {
		for k := range 33 {
			mustRoot(t, k, dir, 0, api.ErrKind)
		}
	}
}

// P8.1: Table has the first half of the root's powers.
func TestTable(t *testing.T) {
	for k := 1; k <= 10; k++ {
		for _, dir := range directions {
			var want []uint64
			for i := range 1 << (k - 1) {
				want = append(want, twiddleOf(i, 1, k, dir))
			}
			mustTable(t, k, dir, want, api.OK)
		}
	}
}

func TestTableAtEdges(t *testing.T) {
	u := uint64(1 << 48)
	for _, dir := range directions {
		mustTable(t, 0, dir, []uint64{1}, api.OK)
		mustTable(t, 1, dir, []uint64{1}, api.OK)
	}
	mustTable(t, 2, api.Forward, []uint64{1, u}, api.OK)
	mustTable(t, 2, api.Inverse, []uint64{1, prime - u}, api.OK)
	mustTable(t, 3, api.Forward, []uint64{1, rootOf(3, api.Forward), u, timesOf(rootOf(3, api.Forward), u)}, api.OK)
	mustTable(t, 3, api.Inverse, []uint64{1, rootOf(3, api.Inverse), prime - u, timesOf(rootOf(3, api.Inverse), prime-u)}, api.OK)
}

// P8.1: the greatest tables: the power behind the last one would be -1.
func TestTableOfTheGreatestExponent(t *testing.T) {
	for _, k := range []int{19, 20} {
		for _, dir := range directions {
			l, e := Table(k, dir)
			if len(l) != 1<<(k-1) || e != api.OK {
				t.Fatalf("Table(%d, %d): %d words, %d", k, dir, len(l), e)
			}
			w := rootOf(k, dir)
			for i := range l[1:] {
				if l[i+1] != gold.Mul(l[i], w) {
					t.Fatalf("Table(%d, %d): %d at %d", k, dir, l[i+1], i+1)
				}
			}
			if l[0] != 1 || l[1<<(k-2)] != rootOf(2, dir) || timesOf(l[len(l)-1], w) != prime-1 {
				t.Errorf("Table(%d, %d): %d, .., %d", k, dir, l[0], l[len(l)-1])
			}
		}
	}
}

// P8.1, R2 and R3: ErrArg ahead of ErrKind ahead of ErrLarge, and no words beside them.
func TestTableRefused(t *testing.T) {
	for _, dir := range slices.Concat(directions, badDirections) {
		for _, k := range badExponents {
			mustTable(t, k, dir, nil, api.ErrArg)
		}
	}
	for _, dir := range badDirections {
		for _, k := range []int{0, 1, 2, 19, 20, 21, 22, 31, 32} {
			mustTable(t, k, dir, nil, api.ErrKind)
		}
	}
	for _, dir := range directions {
		for k := 21; k <= 32; k++ {
			mustTable(t, k, dir, nil, api.ErrLarge)
		}
	}
}

// P8.1: Share, and its product with 2^k.
func TestShare(t *testing.T) {
	for k := range 33 {
		mustShare(t, k, inverseOf(1<<k), api.OK)
		if s, _ := Share(k); timesOf(s, 1<<k) != 1 {
			t.Errorf("Share(%d) times 2^%d isn't 1", k, k)
		}
	}
	mustShare(t, 0, 1, api.OK)
	mustShare(t, 1, 9223372034707292161, api.OK)
	mustShare(t, 32, 18446744065119617026, api.OK)
	for _, k := range badExponents {
		mustShare(t, k, 0, api.ErrArg)
	}
}

// P8.2: Twiddle, of edges of both numbers, among them those whose product takes all 64 bits.
func TestTwiddle(t *testing.T) {
	for _, k := range []int{0, 1, 2, 3, 10, 20, 21, 31, 32} {
		for _, dir := range directions {
			for _, a := range somePlaces {
				for _, b := range somePlaces {
					mustTwiddle(t, a, b, k, dir, twiddleOf(a, b, k, dir), api.OK)
				}
			}
		}
	}
}

func TestTwiddleAtEdges(t *testing.T) {
	u := uint64(1 << 48)
	for _, c := range []struct {
		a, b, k, dir int
		want         uint64
	}{
		{0, 0, 0, api.Forward, 1},
		{last, last, 0, api.Forward, 1},
		{last, last, 0, api.Inverse, 1},
		{0, last, 32, api.Forward, 1},
		{last, 0, 32, api.Inverse, 1},
		{1, 1, 1, api.Forward, prime - 1},
		{2, 1, 1, api.Forward, 1},
		{last, last, 1, api.Inverse, prime - 1},
		{1, 1, 2, api.Forward, u},
		{1, 1, 2, api.Inverse, prime - u},
		{3, 1, 2, api.Forward, prime - u},
		{3, 3, 2, api.Forward, u},
		{3, 2, 3, api.Forward, prime - u},
		{last, last, 32, api.Forward, 1753635133440165772}, // (-1) times (-1) is 1 modulo 2^32
		{last, 1, 32, api.Forward, inverseOf(1753635133440165772)},
		{1, last, 32, api.Inverse, 1753635133440165772},
		{1 << 31, 1, 32, api.Forward, prime - 1},
		{1 << 31, 1 << 31, 32, api.Forward, 1},
	} {
		mustTwiddle(t, c.a, c.b, c.k, c.dir, c.want, api.OK)
	}
}

// P8.2: of an exponent that has a table it is the table's power, with the other sign from the half on.
func TestTwiddleGoesByTable(t *testing.T) {
	for k := 1; k <= 8; k++ {
		for _, dir := range directions {
			table, _ := Table(k, dir)
			for i := range 1 << k {
				want := table[i%len(table)]
				if i >= len(table) {
					want = prime - want
				}
				mustTwiddle(t, i, 1, k, dir, want, api.OK)
				mustTwiddle(t, 1, i+1<<k, k, dir, want, api.OK)
			}
		}
	}
}

// P8.2, R2 and R3: Root's errors ahead of ErrRange, and 0 beside all.
func TestTwiddleRefused(t *testing.T) {
	for _, bad := range badPlaces {
		for _, good := range somePlaces {
			for _, k := range []int{0, 1, 20, 21, 32} {
				for _, dir := range directions {
					mustTwiddle(t, bad, good, k, dir, 0, api.ErrRange)
					mustTwiddle(t, good, bad, k, dir, 0, api.ErrRange)
					mustTwiddle(t, bad, bad, k, dir, 0, api.ErrRange)
				}
			}
		}
	}
	for _, a := range []int{0, 1, last, last + 1, -1, math.MaxInt, math.MinInt} {
		for _, dir := range badDirections {
			mustTwiddle(t, a, 1, 3, dir, 0, api.ErrKind)
			mustTwiddle(t, 1, a, 32, dir, 0, api.ErrKind)
		}
		for _, k := range badExponents {
			mustTwiddle(t, a, 1, k, api.Forward, 0, api.ErrArg)
			mustTwiddle(t, 1, a, k, api.Inverse, 0, api.ErrArg)
			mustTwiddle(t, a, a, k, 2, 0, api.ErrArg)
		}
	}
}

// P8.2: Tile, of every small shape, one row, one column and one word among them, at several places.
func TestTile(t *testing.T) {
	for a := range 5 {
		for b := range 5 {
			rows, cols := 1<<a, 1<<b
			for i, l := range someRows(rows * cols) {
				for j, at := range [][2]int{{0, 0}, {1, 1}, {5, 0}, {0, 7}, {rows, 3 * cols}, {1 << 20, 1 << 31}} {
					tile := tileOf(rows, cols, at[0], at[1])
					k, dir := (7*a+5*b+3*j)%33, (i+j)%2
					mustTile(t, l, tile, k, dir, tileTimes(l, tile, k, dir), api.OK)
				}
			}
		}
	}
}

// P8.2: each exponent, and both directions.
func TestTileOfExponents(t *testing.T) {
	l := mixed(32, 3)
	for _, s := range []api.Shape{{Rows: 4, Cols: 8}, {Rows: 1, Cols: 32}, {Rows: 32, Cols: 1}} {
		tile := api.Tile{Shape: s, Row: 12345, Col: 678}
		for k := range 33 {
			for _, dir := range directions {
				mustTile(t, l, tile, k, dir, tileTimes(l, tile, k, dir), api.OK)
			}
		}
	}
}

func TestTileAtEdges(t *testing.T) {
	u, minus := uint64(1<<48), prime-1
	ones := alike(4, 1)
	for _, c := range []struct {
		l      []uint64
		tile   api.Tile
		k, dir int
		want   []uint64
	}{
		{ones, tileOf(2, 2, 1, 1), 2, api.Forward, []uint64{u, minus, minus, 1}},
		{ones, tileOf(2, 2, 1, 1), 2, api.Inverse, []uint64{prime - u, minus, minus, 1}},
		{ones, tileOf(2, 2, 0, 0), 2, api.Forward, []uint64{1, 1, 1, u}},
		{ones, tileOf(2, 2, 1, 0), 2, api.Forward, []uint64{1, u, 1, minus}},
		{ones, tileOf(2, 2, 0, 1), 2, api.Forward, []uint64{1, 1, u, minus}},
		{ones, tileOf(1, 4, 1, 0), 2, api.Forward, []uint64{1, u, minus, prime - u}},
		{ones, tileOf(1, 4, 0, 3), 2, api.Forward, ones},
		{ones, tileOf(4, 1, 0, 1), 2, api.Forward, []uint64{1, u, minus, prime - u}},
		{ones, tileOf(4, 1, 3, 0), 2, api.Inverse, ones},
		{ones, tileOf(2, 2, 5, 9), 0, api.Forward, ones},
		{[]uint64{top}, tileOf(1, 1, 0, 0), 32, api.Forward, []uint64{1<<32 - 2}},
		{[]uint64{prime}, tileOf(1, 1, 3, 3), 32, api.Forward, []uint64{0}},
		{[]uint64{prime + 2}, tileOf(1, 1, 1, 1), 1, api.Inverse, []uint64{prime - 2}},
		{[]uint64{3}, tileOf(1, 1, last, last), 1, api.Forward, []uint64{prime - 3}},
		{[]uint64{1}, tileOf(1, 1, last, last), 32, api.Forward, []uint64{1753635133440165772}},
	} {
		mustTile(t, c.l, c.tile, c.k, c.dir, c.want, api.OK)
	}
}

// P8.2: a word's twiddle is the one that Twiddle tells, and each tile of a shape has the words that the whole shape has there.
func TestTilesOfAShape(t *testing.T) {
	s := api.Shape{Rows: 16, Cols: 8}
	whole, e := Tile(alike(128, 1), api.Tile{Shape: s}, 7, api.Forward)
	if e != api.OK || len(whole) != 128 {
		t.Fatalf("%d words, %d", len(whole), e)
	}
	for i, w := range whole {
		mustTwiddle(t, i/8, i%8, 7, api.Forward, w, api.OK)
	}
	for _, side := range [][2]int{{1, 1}, {2, 4}, {4, 2}, {16, 1}, {1, 8}, {16, 8}} {
		tiles, _ := shape.Tiles(s, side[0], side[1])
		for _, tile := range tiles {
			var want []uint64
			for r := range tile.Rows {
				from := (tile.Row+r)*s.Cols + tile.Col
				want = append(want, whole[from:from+tile.Cols]...)
			}
			mustTile(t, alike(len(want), 1), tile, 7, api.Forward, want, api.OK)
		}
	}
}

// P8.2: tiles whose last row and column are just 2^32 - 1, and those that go beyond it by one.
func TestTileAtTheLastPlaces(t *testing.T) {
	for a := range 4 {
		for b := range 4 {
			rows, cols := 1<<a, 1<<b
			l := mixed(rows*cols, 5)
			row, col := 1<<32-rows, 1<<32-cols
			for _, at := range [][2]int{{row, col}, {row, 0}, {0, col}, {row - 1, col - 1}} {
				tile := tileOf(rows, cols, at[0], at[1])
				mustTile(t, l, tile, 32, api.Forward, tileTimes(l, tile, 32, api.Forward), api.OK)
				mustTile(t, l, tile, 31, api.Inverse, tileTimes(l, tile, 31, api.Inverse), api.OK)
			}
			for _, at := range [][2]int{{row + 1, 0}, {0, col + 1}, {row + 1, col}, {row, col + 1}, {row + 1, col + 1}} {
				mustTile(t, l, tileOf(rows, cols, at[0], at[1]), 32, api.Forward, nil, api.ErrRange)
			}
		}
	}
}

// P8.2: places that are outside whatever the shape is.
func TestTileOutside(t *testing.T) {
	for _, s := range []api.Shape{{Rows: 1, Cols: 1}, {Rows: 1, Cols: 4}, {Rows: 4, Cols: 1}, {Rows: 4, Cols: 4}} {
		l := mixed(s.Rows*s.Cols, 6)
		for _, bad := range badPlaces {
			for _, good := range []int{0, 1, last - 3} {
				for _, dir := range directions {
					mustTile(t, l, api.Tile{Shape: s, Row: bad, Col: good}, 20, dir, nil, api.ErrRange)
					mustTile(t, l, api.Tile{Shape: s, Row: good, Col: bad}, 20, dir, nil, api.ErrRange)
					mustTile(t, l, api.Tile{Shape: s, Row: bad, Col: bad}, 20, dir, nil, api.ErrRange)
				}
			}
		}
	}
}

// wrongShapes are shapes that aren't right: sides that are no powers of two, and products that are too great or beyond an int.
var wrongShapes = []api.Shape{
	{}, {Rows: 0, Cols: 1}, {Rows: 1, Cols: 0}, {Rows: 2, Cols: 3}, {Rows: 3, Cols: 2}, {Rows: 1, Cols: 3}, {Rows: 3, Cols: 1}, {Rows: 5, Cols: 1}, {Rows: 1, Cols: 6},
	{Rows: -1, Cols: -1}, {Rows: -2, Cols: -2}, {Rows: -1, Cols: -4}, {Rows: -1, Cols: 1}, {Rows: 1, Cols: -1}, {Rows: 4, Cols: -1},
	{Rows: 1 << 33, Cols: 1}, {Rows: 1, Cols: 1 << 33}, {Rows: 1 << 32, Cols: 2}, {Rows: 1 << 32, Cols: 1 << 32}, {Rows: 1 << 62, Cols: 4}, {Rows: 2, Cols: math.MinInt},
	{Rows: math.MaxInt, Cols: math.MaxInt}, {Rows: math.MinInt, Cols: math.MinInt}, {Rows: math.MaxInt, Cols: 1}, {Rows: 1, Cols: math.MinInt},
}

// P8.2: ErrOdd: lengths that aren't the shape's size, and shapes that aren't right, rows of no words and of just rows times columns among them.
func TestTileOfOtherLengths(t *testing.T) {
	for _, s := range []api.Shape{{Rows: 1, Cols: 1}, {Rows: 1, Cols: 8}, {Rows: 8, Cols: 1}, {Rows: 2, Cols: 4}, {Rows: 4, Cols: 4}} {
		size := s.Rows * s.Cols
		for _, n := range []int{0, 1, 2, size - 1, size + 1, 2 * size, size / 2, s.Rows, s.Cols, s.Rows + s.Cols} {
			if n != size {
				mustTile(t, mixed(n, 7), api.Tile{Shape: s}, 5, api.Forward, nil, api.ErrOdd)
			}
		}
	}
	for _, n := range []int{1, 4, 16} {
		mustTile(t, mixed(n, 7), api.Tile{Shape: api.Shape{Rows: 1 << 16, Cols: 1 << 16}}, 5, api.Inverse, nil, api.ErrOdd)
	}
	for _, s := range wrongShapes {
		for _, n := range []int{0, 1, 2, 3, 4, 5, 6, 8} {
			mustTile(t, mixed(n, 8), api.Tile{Shape: s}, 5, api.Inverse, nil, api.ErrOdd)
		}
	}
	mustTile(t, nil, api.Tile{}, 0, api.Forward, nil, api.ErrOdd)
	mustTile(t, []uint64{}, tileOf(1, 1, 0, 0), 0, api.Forward, nil, api.ErrOdd)
}

// R2: ErrArg ahead of ErrKind ahead of ErrOdd ahead of ErrRange.
func TestTileOrderOfErrors(t *testing.T) {
	four, odd := mixed(4, 9), mixed(3, 9)
	for _, bad := range badPlaces {
		mustTile(t, odd, tileOf(2, 2, bad, 0), 2, api.Forward, nil, api.ErrOdd)
		mustTile(t, odd, tileOf(2, 2, 0, bad), 2, api.Inverse, nil, api.ErrOdd)
		mustTile(t, odd, tileOf(3, 1, bad, bad), 2, api.Inverse, nil, api.ErrOdd)
	}
	for _, dir := range badDirections {
		mustTile(t, four, tileOf(2, 2, 0, 0), 2, dir, nil, api.ErrKind)
		mustTile(t, four, tileOf(2, 2, -1, 0), 2, dir, nil, api.ErrKind)
		mustTile(t, odd, tileOf(2, 2, 0, 0), 2, dir, nil, api.ErrKind)
		mustTile(t, nil, tileOf(0, 0, -1, -1), 32, dir, nil, api.ErrKind)
	}
	for _, k := range badExponents {
		mustTile(t, four, tileOf(2, 2, 0, 0), k, api.Forward, nil, api.ErrArg)
		mustTile(t, four, tileOf(2, 2, 0, 0), k, 2, nil, api.ErrArg)
		mustTile(t, odd, tileOf(2, 2, 0, last+1), k, -1, nil, api.ErrArg)
		mustTile(t, nil, api.Tile{}, k, api.Inverse, nil, api.ErrArg)
	}
}

// P8.2: many words, the last of a long row and of a long column among them.
func TestTileOfManyWords(t *testing.T) {
	const n = 1 << 16
	l := mixed(n, 10)
	for _, tile := range []api.Tile{tileOf(1, n, 3, last-n+1), tileOf(n, 1, last-n+1, 3), tileOf(256, 256, 1000, 1<<31)} {
		got, e := Tile(l, tile, 32, api.Forward)
		if len(got) != n || e != api.OK {
			t.Fatalf("%+v: %d words, %d", tile, len(got), e)
		}
		for _, i := range []int{0, 1, 255, 256, 257, n / 2, n - 257, n - 2, n - 1} {
			want := timesOf(l[i], twiddleOf(tile.Row+i/tile.Cols, tile.Col+i%tile.Cols, 32, api.Forward))
			if got[i] != want {
				t.Errorf("%+v: %d at %d, want %d", tile, got[i], i, want)
			}
		}
	}
}

// P8.3: Scale, of rows of any length and of words from P on.
func TestScale(t *testing.T) {
	for _, n := range []int{0, 1, 2, 3, 5, 8, 100} {
		l := mixed(n, 11)
		for _, a := range someWords {
			var want []uint64
			for _, w := range l {
				want = append(want, timesOf(w, a))
			}
			mustWords(t, "Scale", Scale(l, a), api.OK, want, api.OK)
		}
	}
	for _, a := range someWords {
		for i, got := range Scale(someWords, a) {
			if got != timesOf(someWords[i], a) {
				t.Errorf("Scale: %d times %d = %d", someWords[i], a, got)
			}
		}
	}
}

func TestScaleAtEdges(t *testing.T) {
	for _, c := range []struct {
		l    []uint64
		a    uint64
		want []uint64
	}{
		{nil, 5, nil},
		{[]uint64{}, 0, nil},
		{[]uint64{1, 2, 3}, 2, []uint64{2, 4, 6}},
		{[]uint64{1, 2, 3}, 0, []uint64{0, 0, 0}},
		{[]uint64{1, 2, 3}, prime, []uint64{0, 0, 0}},
		{[]uint64{1, 2, prime, 0}, prime - 1, []uint64{prime - 1, prime - 2, 0, 0}},
		{[]uint64{top, prime, prime + 1}, 1, []uint64{1<<32 - 2, 0, 1}},
		{[]uint64{0, 0, 1 << 32, 0, 0}, 1 << 32, []uint64{0, 0, 1<<32 - 1, 0, 0}},
	} {
		mustWords(t, "Scale", Scale(c.l, c.a), api.OK, c.want, api.OK)
	}
}

// P8.3: Slow, by exact sums, of each length.
func TestSlow(t *testing.T) {
	for k := range 8 {
		for _, l := range someRows(1 << k) {
			for _, dir := range directions {
				mustSlow(t, l, dir, transformOf(l, dir), api.OK)
			}
		}
	}
	for _, n := range []int{256, 512} {
		l := mixed(n, 12)
		for _, dir := range directions {
			mustSlow(t, l, dir, transformOf(l, dir), api.OK)
		}
	}
}

func TestSlowAtEdges(t *testing.T) {
	u := uint64(1 << 48)
	half := inverseOf(2)
	for _, c := range []struct {
		l    []uint64
		dir  int
		want []uint64
	}{
		{[]uint64{1, 1}, api.Forward, []uint64{2, 0}},
		{[]uint64{1, 1}, api.Inverse, []uint64{1, 0}},
		{[]uint64{2, 0}, api.Inverse, []uint64{1, 1}},
		{[]uint64{5, 3}, api.Forward, []uint64{8, 2}},
		{[]uint64{3, 5}, api.Forward, []uint64{8, prime - 2}},
		{[]uint64{0, 1}, api.Inverse, []uint64{half, prime - half}},
		{[]uint64{0}, api.Forward, []uint64{0}},
		{[]uint64{7}, api.Forward, []uint64{7}},
		{[]uint64{7}, api.Inverse, []uint64{7}},
		{[]uint64{prime}, api.Forward, []uint64{0}},
		{[]uint64{prime + 7}, api.Inverse, []uint64{7}},
		{[]uint64{top}, api.Forward, []uint64{1<<32 - 2}},
		{[]uint64{prime - 1, prime}, api.Forward, []uint64{prime - 1, prime - 1}},
		{[]uint64{1, 0, 0, 0}, api.Forward, []uint64{1, 1, 1, 1}},
		{[]uint64{0, 1, 0, 0}, api.Forward, []uint64{1, u, prime - 1, prime - u}},
		{[]uint64{0, 4, 0, 0}, api.Inverse, []uint64{1, prime - u, prime - 1, u}},
		{[]uint64{1, 2, 3, 4}, api.Forward, []uint64{10, prime - 2 - 2*u, prime - 2, 2*u - 2}},
		{[]uint64{4, 4, 4, 4}, api.Inverse, []uint64{4, 0, 0, 0}},
	} {
		mustSlow(t, c.l, c.dir, c.want, api.OK)
	}
}

// P8.3: just 1,024 words.
func TestSlowOfJustTheLimit(t *testing.T) {
	l := mixed(1024, 13)
	for _, dir := range directions {
		mustSlow(t, l, dir, transformOf(l, dir), api.OK)
	}
	mustSlow(t, alike(1024, 1), api.Forward, pulse(1024, 0, 1024), api.OK)
	mustSlow(t, alike(1024, top), api.Inverse, pulse(1024, 0, 1<<32-2), api.OK)
}

// P8.3, R2 and R3: ErrLen ahead of ErrKind ahead of ErrLarge, and no words beside them.
func TestSlowRefused(t *testing.T) {
	for _, n := range []int{0, 3, 5, 6, 7, 9, 12, 1000, 1023, 1025, 1536, 2047, 2049, 3000, 1<<20 + 1} {
		for _, dir := range slices.Concat(directions, badDirections) {
			mustSlow(t, make([]uint64, n), dir, nil, api.ErrLen)
		}
	}
	mustSlow(t, nil, api.Forward, nil, api.ErrLen)
	for _, n := range []int{1, 2, 4, 512, 1024, 2048, 4096, 1 << 21} {
		for _, dir := range badDirections {
			mustSlow(t, make([]uint64, n), dir, nil, api.ErrKind)
		}
	}
	for _, n := range []int{2048, 4096, 1 << 16, 1 << 20, 1 << 21} {
		for _, dir := range directions {
			mustSlow(t, make([]uint64, n), dir, nil, api.ErrLarge)
		}
	}
}

// P8.3: forward, the word at j is the row's value as a polynomial at the j-th power of the root.
func TestSlowTellsValues(t *testing.T) {
	for k := range 7 {
		l := mixed(1<<k, 14)
		w, _ := root.Root(k)
		for j, got := range goodSlow(t, l, api.Forward) {
			if want := poly.At(l, gold.Pow(w, uint64(j))); got != want {
				t.Errorf("%d words: %d at %d, want %d", len(l), got, j, want)
			}
		}
	}
}

// P8.4: the inverse transform of the forward one is the row, canonical, and the forward one of the inverse one, too.
func TestForwardAndBack(t *testing.T) {
	for k := range 9 {
		for _, l := range someRows(1 << k) {
			want := canonical(l)
			mustSlow(t, goodSlow(t, l, api.Forward), api.Inverse, want, api.OK)
			mustSlow(t, goodSlow(t, l, api.Inverse), api.Forward, want, api.OK)
		}
	}
	for _, n := range []int{512, 1024} {
		l := mixed(n, 15)
		mustSlow(t, goodSlow(t, l, api.Forward), api.Inverse, canonical(l), api.OK)
		mustSlow(t, goodSlow(t, l, api.Inverse), api.Forward, canonical(l), api.OK)
	}
}

// P8.4: forward twice it is the row gone through from behind, its length times as great.
func TestForwardTwice(t *testing.T) {
	for k := range 7 {
		l := mixed(1<<k, 16)
		want := Scale(l, uint64(len(l)))
		slices.Reverse(want[1:])
		mustSlow(t, goodSlow(t, l, api.Forward), api.Forward, want, api.OK)
	}
}

// P8.2: what a twiddle forward does the inverse one takes back.
func TestTilesForwardAndBack(t *testing.T) {
	l := mixed(64, 17)
	for _, s := range []api.Shape{{Rows: 8, Cols: 8}, {Rows: 1, Cols: 64}, {Rows: 64, Cols: 1}, {Rows: 2, Cols: 32}} {
		for k := range 33 {
			tile := api.Tile{Shape: s, Row: 99, Col: 1 << 30}
			there, _ := Tile(l, tile, k, api.Forward)
			mustTile(t, there, tile, k, api.Inverse, canonical(l), api.OK)
		}
	}
}

// answers are all rows that the calls answer of a row, whose length is a power of two from 2 on; some are refused.
func answers(l []uint64) [][]uint64 {
	var all [][]uint64
	add := func(l []uint64, _ api.Errno) { all = append(all, l) }
	n := len(l)
	for _, dir := range []int{api.Forward, api.Inverse, 2} {
		add(Slow(l, dir))
		add(Slow(l[:n-1], dir))
		add(Table(5, dir))
		add(Table(0, dir))
		add(Tile(l, tileOf(1, n, 0, 0), 4, dir))
		add(Tile(l, tileOf(n, 1, 2, 3), 0, dir))
		add(Tile(l, tileOf(2, n/2, 5, 7), 32, dir))
		add(Tile(l, tileOf(2, n/2, -1, 0), 32, dir))
		add(Tile(l, tileOf(2, n, 0, 0), 32, dir))
		add(Tile(l[:1], tileOf(1, 1, 0, 0), 3, dir))
	}
	for _, a := range []uint64{0, 1, 3, prime, top} {
		all = append(all, Scale(l, a), Scale(l[:n-1], a), Scale(l[:0], a))
	}
	return all
}

// R4 and R8: what is handed in stays as it is, what lies behind its length is neither read nor written, and answers are new.
func TestWordsStayAsTheyAre(t *testing.T) {
	for _, n := range []int{2, 4, 8, 16} {
		memory := mixed(64, 18)
		before := slices.Clone(memory)
		first := answers(memory[:n])
		if !slices.Equal(memory, before) {
			t.Fatalf("%d: the words became %v", n, memory)
		}
		var kept [][]uint64
		for _, l := range first {
			kept = append(kept, slices.Clone(l))
		}
		for i, l := range first {
			if !slices.Equal(l, kept[i]) { // the answers are gone through one by one: none shares memory with another
				t.Errorf("%d: answer %d was written over with another one", n, i)
			}
			l = l[:cap(l)]
			for j := range l {
				l[j] = top
			}
		}
		if !slices.Equal(memory, before) {
			t.Fatalf("%d: the words became %v behind writes into answers", n, memory)
		}
		for i := n; i < len(memory); i++ {
			memory[i] ^= 1 << 40
		}
		for i, l := range answers(memory[:n]) {
			if !slices.Equal(l, kept[i]) {
				t.Errorf("%d: answer %d is %v, want %v", n, i, l, kept[i])
			}
		}
	}
}

// P1: calls end and none panics, whatever numbers and rows come together.
func TestAnyArgument(t *testing.T) {
	numbers := []int{0, 1, 2, 3, 4, -1, -2, 8, 20, 21, 32, 33, 1 << 16, last, last + 1, 1 << 33, 1 << 62, -1 << 62, math.MaxInt, math.MinInt, math.MinInt + 1}
	rows := [][]uint64{nil, {}, {top}, mixed(2, 1), mixed(3, 1), mixed(4, 1), mixed(8, 1), mixed(1025, 1), mixed(2048, 1)}
	for _, k := range numbers {
		Share(k)
		for _, dir := range numbers {
			Root(k, dir)
			Table(k, dir)
			for _, a := range numbers {
				Twiddle(a, k, 32, dir)
				Twiddle(k, a, dir, 1)
				Twiddle(a, a, k, dir)
			}
		}
	}
	for _, l := range rows {
		for _, a := range numbers {
			Slow(l, a)
			Scale(l, uint64(a))
			for _, b := range numbers {
				anyTile(l, a, b, numbers)
			}
		}
	}
}

func anyTile(l []uint64, a, b int, numbers []int) {
	for _, c := range numbers {
		Tile(l, tileOf(a, b, c, 0), 32, api.Forward)
		Tile(l, tileOf(a, b, 0, c), 32, api.Inverse)
		Tile(l, tileOf(a, b, c, c), 3, api.Forward)
		Tile(l, tileOf(2, 2, a, b), c, api.Forward)
		Tile(l, tileOf(1, 4, a, b), 3, c)
	}
}

// The rules that the tests go by are the document's own: they are held against what is written out by hand.
func TestTheTestsOwnRules(t *testing.T) {
	u := uint64(1 << 48)
	if rootOf(1, api.Forward) != prime-1 || rootOf(2, api.Forward) != u || rootOf(2, api.Inverse) != prime-u {
		t.Error("rootOf tells another root")
	}
	if twiddleOf(3, 5, 2, api.Forward) != prime-u || twiddleOf(last, last, 2, api.Forward) != u {
		t.Error("twiddleOf tells another word")
	}
	if got := tileTimes([]uint64{1, 1, 1, prime + 2}, tileOf(2, 2, 1, 1), 2, api.Forward); !slices.Equal(got, []uint64{u, prime - 1, prime - 1, 2}) {
		t.Errorf("tileTimes = %v", got)
	}
	if got := transformOf([]uint64{0, 1, 0, prime}, api.Forward); !slices.Equal(got, []uint64{1, u, prime - 1, prime - u}) {
		t.Errorf("transformOf = %v", got)
	}
	if got := transformOf([]uint64{0, 4, 0, 0}, api.Inverse); !slices.Equal(got, []uint64{1, prime - u, prime - 1, u}) {
		t.Errorf("transformOf = %v", got)
	}
	if got := canonical([]uint64{prime, top, 3}); !slices.Equal(got, []uint64{0, 1<<32 - 2, 3}) {
		t.Errorf("canonical = %v", got)
	}
}
