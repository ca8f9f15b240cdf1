package shape

import (
	"math"
	"math/big"
	"slices"
	"testing"

	"abacist/api"
)

// badSides are how many rows or columns no right shape has.
var badSides = []int{0, -1, -2, -4, -8, 3, 5, 6, 7, 9, 12, 100, 1<<16 - 1, 1<<16 + 1, 3 << 20, 1<<32 - 1, 1<<32 + 1, 1 << 33, 1 << 40, 1 << 62, 1<<62 + 1, -1 << 32, -1 << 62, math.MaxInt, math.MinInt, math.MinInt + 1}

// badExponents are those that have no splits.
var badExponents = []int{-1, -2, -32, -33, -64, 33, 34, 63, 64, 65, 1 << 32, 1 << 62, math.MaxInt, math.MinInt, math.MinInt + 1}

// shapeOf is a shape of 2^a rows and 2^b columns.
func shapeOf(a, b int) api.Shape {
	return api.Shape{Rows: 1 << a, Cols: 1 << b}
}

// powersOfTwo are the numbers from 1 on that an int holds, each twice the one ahead of it.
func powersOfTwo() []int {
	l := []int{1}
	for len(l) < 63 {
		l = append(l, 2*l[len(l)-1])
	}
	return l
}

// goodOf tells whether a shape is right as the document says it, by a product of exact numbers.
func goodOf(s api.Shape) bool {
	if !slices.Contains(powersOfTwo(), s.Rows) || !slices.Contains(powersOfTwo(), s.Cols) {
		return false
	}
	size := new(big.Int).Mul(big.NewInt(int64(s.Rows)), big.NewInt(int64(s.Cols)))
	return size.Cmp(big.NewInt(1<<32)) <= 0
}

// rightShapes are all of them whose size is at most 2^k.
func rightShapes(k int) []api.Shape {
	var l []api.Shape
	for a := range k + 1 {
		for b := range k + 1 - a {
			l = append(l, shapeOf(a, b))
		}
	}
	return l
}

// wrongShapes are shapes with a wrong side, first or second or both, and such whose product is too great or beyond an int.
func wrongShapes() []api.Shape {
	l := []api.Shape{
		shapeOf(0, 33), shapeOf(33, 0), shapeOf(16, 17), shapeOf(17, 16), shapeOf(1, 32), shapeOf(32, 1), shapeOf(32, 32),
		shapeOf(31, 33), shapeOf(33, 31), shapeOf(32, 31), shapeOf(2, 62), shapeOf(62, 2), shapeOf(62, 62), shapeOf(40, 40),
		{Rows: math.MinInt, Cols: math.MinInt}, {Rows: -4, Cols: -2}, {Rows: -1, Cols: -1}, {Rows: -1 << 16, Cols: -1 << 16},
		{Rows: math.MaxInt, Cols: math.MaxInt}, {Rows: -1 << 31, Cols: 1 << 33}, {Rows: math.MinInt, Cols: 2},
	}
	for _, bad := range badSides {
		for _, other := range []int{0, 1, 2, 4, 1 << 16, 1 << 32, bad} {
			l = append(l, api.Shape{Rows: bad, Cols: other}, api.Shape{Rows: other, Cols: bad})
		}
	}
	return l
}

// aRow is n words that are unlike, some of them from P on.
func aRow(n int) []uint64 {
	l := make([]uint64, n)
	for i := range l {
		l[i] = uint64(i)*0x9e3779b97f4a7c15 + 7
	}
	return l
}

// linesOf are the rows of words of a shape, cut out of l one behind the other.
func linesOf(l []uint64, s api.Shape) [][]uint64 {
	return slices.Collect(slices.Chunk(l, s.Cols))
}

// colOf is a column of such rows.
func colOf(lines [][]uint64, c int) []uint64 {
	var col []uint64
	for _, line := range lines {
		col = append(col, line[c])
	}
	return col
}

// transposedOf is the words column by column.
func transposedOf(l []uint64, s api.Shape) []uint64 {
	lines := linesOf(l, s)
	var all []uint64
	for c := range lines[0] {
		all = append(all, colOf(lines, c)...)
	}
	return all
}

// cutsOf is where parts of a length begin and end along n places.
func cutsOf(n, length int) (from, to []int) {
	for at := 0; at < n; {
		from = append(from, at)
		if n-at <= length {
			at = n
		} else {
			at += length
		}
		to = append(to, at)
	}
	return from, to
}

// tilesOf are the tiles of a shape as the document says it.
func tilesOf(s api.Shape, h, w int) []api.Tile {
	top, bottom := cutsOf(s.Rows, h)
	left, right := cutsOf(s.Cols, w)
	var l []api.Tile
	for i := range top {
		for j := range left {
			l = append(l, api.Tile{Row: top[i], Col: left[j], Shape: api.Shape{Rows: bottom[i] - top[i], Cols: right[j] - left[j]}})
		}
	}
	return l
}

func mustAt(t *testing.T, s api.Shape, r, c, want int) {
	t.Helper()
	if got, e := At(s, r, c); got != want || e != api.OK {
		t.Errorf("At(%v, %d, %d) = %d, %d, want %d", s, r, c, got, e, want)
	}
}

func mustWhere(t *testing.T, s api.Shape, i, row, col int) {
	t.Helper()
	if r, c, e := Where(s, i); r != row || c != col || e != api.OK {
		t.Errorf("Where(%v, %d) = %d, %d, %d, want %d, %d", s, i, r, c, e, row, col)
	}
}

// mustNotAt and mustNotWhere hold 0 beside the error (R3).
func mustNotAt(t *testing.T, s api.Shape, r, c int) {
	t.Helper()
	if got, e := At(s, r, c); got != 0 || e != api.ErrRange {
		t.Errorf("At(%v, %d, %d) = %d, %d, want 0 and ErrRange", s, r, c, got, e)
	}
}

func mustNotWhere(t *testing.T, s api.Shape, i int) {
	t.Helper()
	if r, c, e := Where(s, i); r != 0 || c != 0 || e != api.ErrRange {
		t.Errorf("Where(%v, %d) = %d, %d, %d, want 0, 0 and ErrRange", s, i, r, c, e)
	}
}

// mustWords holds a call's words against those that are asked for, and no words beside an error (R3).
func mustWords(t *testing.T, got []uint64, e api.Errno, want []uint64, wantE api.Errno) {
	t.Helper()
	if !slices.Equal(got, want) || e != wantE {
		t.Errorf("%d words, %d, want %d, %d", len(got), e, len(want), wantE)
	}
}

func mustNotTranspose(t *testing.T, n int, s api.Shape) {
	t.Helper()
	got, e := Transpose(aRow(n), s)
	mustWords(t, got, e, nil, api.ErrOdd)
}

func mustNotRow(t *testing.T, n int, s api.Shape, r int, want api.Errno) {
	t.Helper()
	got, e := Row(aRow(n), s, r)
	mustWords(t, got, e, nil, want)
}

func mustNotCol(t *testing.T, n int, s api.Shape, c int, want api.Errno) {
	t.Helper()
	got, e := Col(aRow(n), s, c)
	mustWords(t, got, e, nil, want)
}

func mustTiles(t *testing.T, s api.Shape, h, w int, want []api.Tile) {
	t.Helper()
	if got, e := Tiles(s, h, w); !slices.Equal(got, want) || e != api.OK {
		t.Errorf("Tiles(%v, %d, %d): %d tiles, %d, want %d", s, h, w, len(got), e, len(want))
	}
}

// mustNotTiles holds no tiles beside the error (R3).
func mustNotTiles(t *testing.T, s api.Shape, h, w int, want api.Errno) {
	t.Helper()
	if got, e := Tiles(s, h, w); len(got) != 0 || e != want {
		t.Errorf("Tiles(%v, %d, %d): %d tiles, %d, want none and %d", s, h, w, len(got), e, want)
	}
}

// P6.1: Good and Size, of every two powers of two that an int holds, and of sides that are none.
func TestGoodAndSize(t *testing.T) {
	sides := slices.Concat(powersOfTwo(), badSides)
	for _, rows := range sides {
		for _, cols := range sides {
			s := api.Shape{Rows: rows, Cols: cols}
			want, size := goodOf(s), 0
			if want {
				size = rows * cols
			}
			if Good(s) != want || Size(s) != size {
				t.Errorf("Good(%v) = %t, Size = %d, want %t, %d", s, Good(s), Size(s), want, size)
			}
		}
	}
}

func TestGoodAndSizeAtEdges(t *testing.T) {
	for _, c := range []struct {
		s    api.Shape
		size int
	}{
		{api.Shape{Rows: 2, Cols: 4}, 8},
		{api.Shape{Rows: 1, Cols: 1}, 1},
		{api.Shape{Rows: 1, Cols: 8}, 8},
		{api.Shape{Rows: 8, Cols: 1}, 8},
		{api.Shape{Rows: 1, Cols: 4294967296}, 4294967296},
		{api.Shape{Rows: 4294967296, Cols: 1}, 4294967296},
		{api.Shape{Rows: 65536, Cols: 65536}, 4294967296},
		{api.Shape{Rows: 32768, Cols: 65536}, 2147483648},
	} {
		if !Good(c.s) || Size(c.s) != c.size {
			t.Errorf("Good(%v) = %t, Size = %d, want %d", c.s, Good(c.s), Size(c.s), c.size)
		}
	}
	for _, s := range wrongShapes() {
		if Good(s) || Size(s) != 0 {
			t.Errorf("Good(%v) = %t, Size = %d", s, Good(s), Size(s))
		}
	}
}

// P6.1: At and Where, of every place of small shapes, row by row.
func TestPlaces(t *testing.T) {
	for _, s := range rightShapes(9) {
		i := 0
		for r := range s.Rows {
			for c := range s.Cols {
				mustAt(t, s, r, c, i)
				mustWhere(t, s, i, r, c)
				i++
			}
		}
	}
}

func TestPlacesAtEdges(t *testing.T) {
	for _, c := range []struct {
		s           api.Shape
		row, col, i int
	}{
		{shapeOf(1, 2), 1, 2, 6},
		{shapeOf(0, 0), 0, 0, 0},
		{shapeOf(0, 3), 0, 7, 7},
		{shapeOf(3, 0), 7, 0, 7},
		{shapeOf(16, 16), 0, 0, 0},
		{shapeOf(16, 16), 0, 65535, 65535},
		{shapeOf(16, 16), 1, 0, 65536},
		{shapeOf(16, 16), 65535, 0, 4294901760},
		{shapeOf(16, 16), 65535, 65535, 4294967295},
		{shapeOf(0, 32), 0, 4294967295, 4294967295},
		{shapeOf(32, 0), 4294967295, 0, 4294967295},
		{shapeOf(2, 30), 3, 5, 3221225477},
	} {
		mustAt(t, c.s, c.row, c.col, c.i)
		mustWhere(t, c.s, c.i, c.row, c.col)
	}
}

// P6.1: the last row, column and place are there, those behind them aren't; among them such as would be a place by another row.
func TestPlacesOutside(t *testing.T) {
	far := []int{-1, -2, -1 << 32, -1 << 62, math.MinInt, math.MinInt + 1, 1 << 33, 1 << 62, math.MaxInt}
	for a := range 33 {
		for b := range 33 - a {
			s := shapeOf(a, b)
			last := 1<<(a+b) - 1
			mustAt(t, s, s.Rows-1, s.Cols-1, last)
			mustWhere(t, s, last, s.Rows-1, s.Cols-1)
			mustNotWhere(t, s, last+1)
			for _, r := range append([]int{s.Rows, s.Rows + 1}, far...) {
				mustNotAt(t, s, r, 0)
				mustNotAt(t, s, r, s.Cols-1)
			}
			for _, c := range append([]int{s.Cols, s.Cols + 1}, far...) {
				mustNotAt(t, s, 0, c)
				mustNotAt(t, s, s.Rows-1, c)
			}
			for _, i := range append([]int{last + 1, last + 2}, far...) {
				mustNotWhere(t, s, i)
			}
		}
	}
}

func TestPlacesOfWrongShapes(t *testing.T) {
	for _, s := range wrongShapes() {
		for _, i := range []int{0, 1, -1, 6, -6, 1 << 16, math.MaxInt, math.MinInt} {
			mustNotAt(t, s, 0, i)
			mustNotAt(t, s, i, 0)
			mustNotAt(t, s, i, i)
			mustNotWhere(t, s, i)
		}
	}
}

// P6.1: Turned, of shapes that aren't right, too: it has Cols rows and Rows columns.
func TestTurned(t *testing.T) {
	for _, s := range slices.Concat(rightShapes(32), wrongShapes()) {
		got := Turned(s)
		if got.Rows != s.Cols || got.Cols != s.Rows {
			t.Errorf("Turned(%v) = %v", s, got)
		}
		if Turned(got) != s || Good(got) != Good(s) || Size(got) != Size(s) {
			t.Errorf("Turned(%v) = %v: not as right as it was", s, got)
		}
	}
	if got := Turned(api.Shape{Rows: 2, Cols: 4}); got != (api.Shape{Rows: 4, Cols: 2}) {
		t.Errorf("Turned = %v", got)
	}
}

// P6.2: Even has as many rows as columns, or half as many, and 2^k words.
func TestEvenSplits(t *testing.T) {
	for k := range 33 {
		s, e := Even(k)
		if e != api.OK || !goodOf(s) || s.Rows*s.Cols != 1<<k {
			t.Fatalf("Even(%d) = %v, %d", k, s, e)
		}
		if k%2 == 0 && s.Rows != s.Cols || k%2 == 1 && 2*s.Rows != s.Cols {
			t.Errorf("Even(%d) = %v", k, s)
		}
	}
}

func TestEvenAtEdges(t *testing.T) {
	for _, c := range []struct{ k, rows, cols int }{
		{0, 1, 1}, {1, 1, 2}, {2, 2, 2}, {3, 2, 4}, {5, 4, 8}, {31, 32768, 65536}, {32, 65536, 65536},
	} {
		if s, e := Even(c.k); s.Rows != c.rows || s.Cols != c.cols || e != api.OK {
			t.Errorf("Even(%d) = %v, %d, want %d and %d", c.k, s, e, c.rows, c.cols)
		}
	}
	for _, k := range badExponents {
		if s, e := Even(k); s != (api.Shape{}) || e != api.ErrArg {
			t.Errorf("Even(%d) = %v, %d, want ErrArg", k, s, e)
		}
	}
}

// P6.2: Splits are all the right shapes of 2^k words, by rising rows; Even is one of them.
func TestSplitsOfExponents(t *testing.T) {
	for k := range 33 {
		var want []api.Shape
		for _, rows := range powersOfTwo() {
			for _, cols := range powersOfTwo() {
				if s := (api.Shape{Rows: rows, Cols: cols}); goodOf(s) && rows*cols == 1<<k {
					want = append(want, s)
				}
			}
		}
		got := Splits(k)
		if !slices.Equal(got, want) || len(got) != k+1 {
			t.Errorf("Splits(%d) = %v, want %v", k, got, want)
		}
		if even, _ := Even(k); !slices.Contains(got, even) {
			t.Errorf("Splits(%d) hasn't %v", k, even)
		}
	}
}

func TestSplitsAtEdges(t *testing.T) {
	if got := Splits(0); !slices.Equal(got, []api.Shape{{Rows: 1, Cols: 1}}) {
		t.Errorf("Splits(0) = %v", got)
	}
	if got := Splits(3); !slices.Equal(got, []api.Shape{{Rows: 1, Cols: 8}, {Rows: 2, Cols: 4}, {Rows: 4, Cols: 2}, {Rows: 8, Cols: 1}}) {
		t.Errorf("Splits(3) = %v", got)
	}
	if got := Splits(32); len(got) != 33 || got[0] != shapeOf(0, 32) || got[32] != shapeOf(32, 0) {
		t.Errorf("Splits(32) = %v", got)
	}
	for _, k := range badExponents {
		if got := Splits(k); len(got) != 0 {
			t.Errorf("Splits(%d) = %v, want none", k, got)
		}
	}
}

// P6.3: Transpose, Row and Col, of every small shape, by rows that are cut out and laid beside each other.
func TestRowsAndColumns(t *testing.T) {
	for _, s := range rightShapes(10) {
		l := aRow(s.Rows * s.Cols)
		lines := linesOf(l, s)
		got, e := Transpose(l, s)
		mustWords(t, got, e, transposedOf(l, s), api.OK)
		for r := range s.Rows {
			got, e := Row(l, s, r)
			mustWords(t, got, e, lines[r], api.OK)
		}
		for c := range s.Cols {
			got, e := Col(l, s, c)
			mustWords(t, got, e, colOf(lines, c), api.OK)
		}
	}
}

func TestRowsAndColumnsAtEdges(t *testing.T) {
	l := []uint64{0, 1, api.P, 3, 4, 5, 6, math.MaxUint64}
	for _, c := range []struct {
		s                   api.Shape
		row, col            int
		whole, line, column []uint64
	}{
		{shapeOf(1, 2), 1, 2, []uint64{0, 4, 1, 5, api.P, 6, 3, math.MaxUint64}, []uint64{4, 5, 6, math.MaxUint64}, []uint64{api.P, 6}},
		{shapeOf(2, 1), 3, 0, []uint64{0, api.P, 4, 6, 1, 3, 5, math.MaxUint64}, []uint64{6, math.MaxUint64}, []uint64{0, api.P, 4, 6}},
		{shapeOf(0, 3), 0, 7, l, l, []uint64{math.MaxUint64}},
		{shapeOf(3, 0), 7, 0, l, []uint64{math.MaxUint64}, l},
	} {
		got, e := Transpose(l, c.s)
		mustWords(t, got, e, c.whole, api.OK)
		got, e = Row(l, c.s, c.row)
		mustWords(t, got, e, c.line, api.OK)
		got, e = Col(l, c.s, c.col)
		mustWords(t, got, e, c.column, api.OK)
	}
	one := []uint64{math.MaxUint64}
	got, e := Transpose(one, shapeOf(0, 0))
	mustWords(t, got, e, one, api.OK)
	got, e = Row(one, shapeOf(0, 0), 0)
	mustWords(t, got, e, one, api.OK)
	got, e = Col(one, shapeOf(0, 0), 0)
	mustWords(t, got, e, one, api.OK)
}

// P6.3: a greater shape, word by word: the one at row r and column c stands, column by column, at c times Rows, and r.
func TestTransposeOfManyWords(t *testing.T) {
	for _, s := range []api.Shape{shapeOf(8, 9), shapeOf(3, 14), shapeOf(15, 2), shapeOf(0, 17), shapeOf(17, 0)} {
		l := aRow(1 << 17)
		got, e := Transpose(l, s)
		if len(got) != len(l) || e != api.OK {
			t.Fatalf("Transpose in %v: %d words, %d", s, len(got), e)
		}
		for i, w := range l {
			if got[i%s.Cols*s.Rows+i/s.Cols] != w {
				t.Fatalf("Transpose in %v: the word at %d stands elsewhere", s, i)
			}
		}
	}
}

// P6.3: the words lie where At tells it.
func TestRowsAndColumnsGoByAt(t *testing.T) {
	for _, s := range rightShapes(7) {
		l := aRow(Size(s))
		for r := range s.Rows {
			row, _ := Row(l, s, r)
			for c := range s.Cols {
				col, _ := Col(l, s, c)
				if at, e := At(s, r, c); e != api.OK || row[c] != l[at] || col[r] != l[at] {
					t.Fatalf("row %d and column %d of %v haven't the word at %d", r, c, s, at)
				}
			}
		}
	}
}

// P6.3 and R2: lengths that aren't the shape's size are ErrOdd, ahead of what row or column is asked for.
func TestRowsOfOtherLengths(t *testing.T) {
	for _, s := range rightShapes(6) {
		size := s.Rows * s.Cols
		for _, n := range []int{0, 1, size - 1, size + 1, size / 2, 2 * size, size + s.Rows, size + s.Cols, 3 * size} {
			if n == size {
				continue
			}
			mustNotTranspose(t, n, s)
			for _, i := range []int{0, 1, -1, s.Rows - 1, s.Cols - 1, s.Rows, s.Cols, math.MaxInt, math.MinInt} {
				mustNotRow(t, n, s, i, api.ErrOdd)
				mustNotCol(t, n, s, i, api.ErrOdd)
			}
		}
	}
	for _, s := range []api.Shape{shapeOf(16, 16), shapeOf(0, 32), shapeOf(32, 0)} { // of a size that no row here has
		mustNotTranspose(t, 0, s)
		mustNotTranspose(t, 16, s)
		mustNotRow(t, 16, s, 0, api.ErrOdd)
		mustNotCol(t, 16, s, 0, api.ErrOdd)
	}
}

// P6.3: nothing lies in a shape that isn't right, not even a row of as many words as rows times columns, nor one of none.
func TestRowsInWrongShapes(t *testing.T) {
	for _, s := range append(wrongShapes(), api.Shape{Rows: 3, Cols: 4}, api.Shape{Rows: 4, Cols: 3}, api.Shape{Rows: -3, Cols: -4}) {
		for _, n := range []int{0, 1, 4, 8, 12, 16} {
			mustNotTranspose(t, n, s)
			for _, i := range []int{0, 1, -1, 5, math.MaxInt, math.MinInt} {
				mustNotRow(t, n, s, i, api.ErrOdd)
				mustNotCol(t, n, s, i, api.ErrOdd)
			}
		}
	}
	if got, e := Transpose(nil, api.Shape{}); len(got) != 0 || e != api.ErrOdd {
		t.Errorf("Transpose(nil, {}) = %v, %d", got, e)
	}
}

// P6.3: rows and columns that aren't there, among them those that are there the other way about.
func TestRowsAndColumnsOutside(t *testing.T) {
	for _, s := range rightShapes(6) {
		n := s.Rows * s.Cols
		for _, i := range []int{-1, -2, n, n + 1, 1 << 32, 1 << 58, 1 << 62, -1 << 58, -1 << 62, math.MaxInt, math.MinInt, math.MinInt + 1} {
			mustNotRow(t, n, s, i, api.ErrRange)
			mustNotCol(t, n, s, i, api.ErrRange)
		}
		for i := s.Rows; i <= n; i++ {
			mustNotRow(t, n, s, i, api.ErrRange)
		}
		for i := s.Cols; i <= n; i++ {
			mustNotCol(t, n, s, i, api.ErrRange)
		}
	}
}

// P6.4: Tiles, of every small shape, by heights and widths to beyond it.
func TestTilesOfShapes(t *testing.T) {
	for _, s := range rightShapes(6) {
		for h := 1; h <= s.Rows+3; h++ {
			for w := 1; w <= s.Cols+3; w++ {
				mustTiles(t, s, h, w, tilesOf(s, h, w))
			}
		}
	}
}

func tileOf(row, col, rows, cols int) api.Tile {
	return api.Tile{Row: row, Col: col, Shape: api.Shape{Rows: rows, Cols: cols}}
}

func TestTilesAtEdges(t *testing.T) {
	for _, c := range []struct {
		s    api.Shape
		h, w int
		want []api.Tile
	}{
		{shapeOf(0, 0), 1, 1, []api.Tile{tileOf(0, 0, 1, 1)}},
		{shapeOf(0, 0), 2, 9, []api.Tile{tileOf(0, 0, 1, 1)}},
		{shapeOf(1, 2), 1, 2, []api.Tile{tileOf(0, 0, 1, 2), tileOf(0, 2, 1, 2), tileOf(1, 0, 1, 2), tileOf(1, 2, 1, 2)}},
		{shapeOf(1, 2), 2, 4, []api.Tile{tileOf(0, 0, 2, 4)}},
		{shapeOf(1, 2), 2, 3, []api.Tile{tileOf(0, 0, 2, 3), tileOf(0, 3, 2, 1)}},
		{shapeOf(2, 1), 3, 2, []api.Tile{tileOf(0, 0, 3, 2), tileOf(3, 0, 1, 2)}},
		{shapeOf(2, 2), 3, 3, []api.Tile{tileOf(0, 0, 3, 3), tileOf(0, 3, 3, 1), tileOf(3, 0, 1, 3), tileOf(3, 3, 1, 1)}},
		{shapeOf(0, 2), 5, 3, []api.Tile{tileOf(0, 0, 1, 3), tileOf(0, 3, 1, 1)}},
		{shapeOf(2, 0), 3, 5, []api.Tile{tileOf(0, 0, 3, 1), tileOf(3, 0, 1, 1)}},
		{shapeOf(16, 16), 1 << 16, 1 << 16, []api.Tile{tileOf(0, 0, 1<<16, 1<<16)}},
		{shapeOf(16, 16), 1<<16 - 1, 1<<16 + 1, []api.Tile{tileOf(0, 0, 1<<16-1, 1<<16), tileOf(1<<16-1, 0, 1, 1<<16)}},
		{shapeOf(0, 32), 1, 1<<32 - 1, []api.Tile{tileOf(0, 0, 1, 1<<32-1), tileOf(0, 1<<32-1, 1, 1)}},
		{shapeOf(32, 0), 1<<32 - 1, 1, []api.Tile{tileOf(0, 0, 1<<32-1, 1), tileOf(1<<32-1, 0, 1, 1)}},
	} {
		mustTiles(t, c.s, c.h, c.w, c.want)
	}
}

// P6.4 and R7: heights and widths as large as an int can be.
func TestTilesLargerThanAll(t *testing.T) {
	for _, large := range []int{1 << 33, 1 << 62, math.MaxInt - 1, math.MaxInt} {
		for _, s := range []api.Shape{shapeOf(0, 0), shapeOf(1, 2), shapeOf(16, 16), shapeOf(0, 32), shapeOf(32, 0)} {
			mustTiles(t, s, large, large, []api.Tile{tileOf(0, 0, s.Rows, s.Cols)})
		}
		mustTiles(t, shapeOf(1, 2), large, 3, []api.Tile{tileOf(0, 0, 2, 3), tileOf(0, 3, 2, 1)})
		mustTiles(t, shapeOf(1, 2), 1, large, []api.Tile{tileOf(0, 0, 1, 4), tileOf(1, 0, 1, 4)})
	}
}

// P6.4: just 65,536 tiles, whole ones and cut ones, and some more.
func TestTilesOfJustTheLimit(t *testing.T) {
	for _, c := range []struct {
		s    api.Shape
		h, w int
	}{
		{shapeOf(8, 8), 1, 1},
		{shapeOf(16, 0), 1, 1},
		{shapeOf(0, 16), 7, 1},
		{shapeOf(16, 16), 1 << 8, 1 << 8},
		{shapeOf(16, 16), 257, 257},
		{shapeOf(16, 16), 257, 256},
		{shapeOf(0, 32), 1, 1 << 16},
		{shapeOf(32, 0), 1 << 16, 1},
		{shapeOf(0, 32), 1, 1<<16 + 1},
	} {
		want := tilesOf(c.s, c.h, c.w)
		if len(want) != 65536 {
			t.Fatalf("%v by %d and %d: %d tiles", c.s, c.h, c.w, len(want))
		}
		mustTiles(t, c.s, c.h, c.w, want)
	}
	for _, c := range []struct {
		s    api.Shape
		h, w int
	}{
		{shapeOf(9, 9), 1, 1},
		{shapeOf(8, 9), 1, 1},
		{shapeOf(17, 0), 1, 1},
		{shapeOf(0, 17), 1, 1},
		{shapeOf(16, 16), 255, 256},
		{shapeOf(16, 16), 256, 255},
		{shapeOf(0, 32), 1, 1<<16 - 1},
		{shapeOf(32, 0), 1<<16 - 1, 1},
		{shapeOf(16, 16), 1, 1},
		{shapeOf(0, 32), math.MaxInt, 1},
		{shapeOf(32, 0), 1, math.MaxInt},
		{shapeOf(31, 1), 1, 1},
	} {
		mustNotTiles(t, c.s, c.h, c.w, api.ErrLarge)
	}
}

// P6.4 and R2: ErrArg ahead of ErrRange ahead of ErrLarge.
func TestTilesRefused(t *testing.T) {
	below := []int{0, -1, -2, -1 << 32, -1 << 62, math.MinInt, math.MinInt + 1}
	shapes := append(wrongShapes(), shapeOf(1, 2), shapeOf(16, 16))
	for _, s := range shapes {
		for _, bad := range below {
			for _, other := range []int{1, 2, 5, 1 << 32, math.MaxInt, bad} {
				mustNotTiles(t, s, bad, other, api.ErrArg)
				mustNotTiles(t, s, other, bad, api.ErrArg)
			}
		}
	}
	for _, s := range wrongShapes() {
		for _, h := range []int{1, 2, 1 << 16, 1 << 62, math.MaxInt} {
			for _, w := range []int{1, 2, 1 << 16, 1 << 62, math.MaxInt} {
				mustNotTiles(t, s, h, w, api.ErrRange)
			}
		}
	}
}

// P6.5: transposed twice, the second time in the shape that is turned, it is the same.
func TestTransposedTwice(t *testing.T) {
	for k := range 15 {
		l := aRow(1 << k)
		for _, s := range Splits(k) {
			once, e := Transpose(l, s)
			if e != api.OK {
				t.Fatalf("Transpose in %v: %d", s, e)
			}
			twice, e := Transpose(once, Turned(s))
			mustWords(t, twice, e, l, api.OK)
		}
	}
}

// P6.5: a shape's row is a column of the turned one, once it is transposed.
func TestRowsBecomeColumns(t *testing.T) {
	for _, s := range rightShapes(8) {
		l := aRow(Size(s))
		turned, _ := Transpose(l, s)
		for r := range s.Rows {
			row, _ := Row(l, s, r)
			col, e := Col(turned, Turned(s), r)
			mustWords(t, col, e, row, api.OK)
		}
		for c := range s.Cols {
			col, _ := Col(l, s, c)
			row, e := Row(turned, Turned(s), c)
			mustWords(t, row, e, col, api.OK)
		}
	}
}

// P6.5: each place lies in just one tile.
func TestEachPlaceInOneTile(t *testing.T) {
	for _, s := range rightShapes(8) {
		for _, h := range []int{1, 2, 3, 5, 7, 16, 100, 300, math.MaxInt} {
			for _, w := range []int{1, 2, 3, 6, 11, 64, 255, 300, math.MaxInt} {
				tiles, e := Tiles(s, h, w)
				if e != api.OK {
					t.Fatalf("Tiles(%v, %d, %d): %d", s, h, w, e)
				}
				for i, n := range coversOf(t, s, tiles) {
					if n != 1 {
						t.Fatalf("Tiles(%v, %d, %d): the place %d lies in %d", s, h, w, i, n)
					}
				}
			}
		}
	}
}

// coversOf is in how many tiles each place lies.
func coversOf(t *testing.T, s api.Shape, tiles []api.Tile) []int {
	t.Helper()
	covers := make([]int, Size(s))
	for _, tile := range tiles {
		for r := range tile.Rows {
			for c := range tile.Cols {
				at, e := At(s, tile.Row+r, tile.Col+c)
				if e != api.OK {
					t.Fatalf("the tile %v lies beyond %v", tile, s)
				}
				covers[at]++
			}
		}
	}
	return covers
}

// R4: what is handed in stays as it is, what lies behind its length is neither read nor written, and answers are new.
func TestWordsStayAsTheyAre(t *testing.T) {
	memory := aRow(32)
	before := slices.Clone(memory)
	s := shapeOf(2, 2)
	calls := []func() []uint64{
		func() []uint64 { l, _ := Transpose(memory[:16], s); return l },
		func() []uint64 { l, _ := Transpose(memory[:16], shapeOf(0, 4)); return l },
		func() []uint64 { l, _ := Transpose(memory[:16], shapeOf(4, 0)); return l },
		func() []uint64 { l, _ := Transpose(memory[:1], shapeOf(0, 0)); return l },
		func() []uint64 { l, _ := Transpose(memory[:15], s); return l },
		func() []uint64 { l, _ := Transpose(memory[:16], shapeOf(0, 5)); return l },
		func() []uint64 { l, _ := Row(memory[:16], s, 0); return l },
		func() []uint64 { l, _ := Row(memory[:16], s, 3); return l },
		func() []uint64 { l, _ := Row(memory[:16], s, 4); return l },
		func() []uint64 { l, _ := Row(memory[:16], shapeOf(0, 4), 0); return l },
		func() []uint64 { l, _ := Col(memory[:16], s, 0); return l },
		func() []uint64 { l, _ := Col(memory[:16], s, 3); return l },
		func() []uint64 { l, _ := Col(memory[:16], s, 4); return l },
		func() []uint64 { l, _ := Col(memory[:16], shapeOf(4, 0), 0); return l },
	}
	for i, call := range calls {
		first := call()
		kept := slices.Clone(first)
		clear(first[:cap(first)])
		if !slices.Equal(memory, before) {
			t.Fatalf("call %d: the words became %v", i, memory)
		}
		if second := call(); !slices.Equal(second, kept) {
			t.Errorf("call %d = %v behind a write into its answer, want %v", i, second, kept)
		}
	}
}

// R4 and R8: shapes and tiles that were answered may be written over, and the next answer is the same.
func TestAnswersAreNew(t *testing.T) {
	for k := range 33 {
		first := Splits(k)
		kept := slices.Clone(first)
		clear(first[:cap(first)])
		if second := Splits(k); !slices.Equal(second, kept) {
			t.Errorf("Splits(%d) = %v behind a write into its answer", k, second)
		}
	}
	for _, s := range rightShapes(5) {
		first, _ := Tiles(s, 2, 3)
		kept := slices.Clone(first)
		clear(first[:cap(first)])
		mustTiles(t, s, 2, 3, kept)
	}
}

// P1: calls end and none panics, whatever numbers and rows come together.
func TestAnyArgument(t *testing.T) {
	numbers := []int{0, 1, 2, 3, 4, -1, -2, 16, 1 << 16, 1<<32 - 1, 1 << 32, 1 << 33, 1 << 62, -1 << 62, math.MaxInt, math.MinInt, math.MinInt + 1}
	for _, rows := range numbers {
		for _, cols := range numbers {
			s := api.Shape{Rows: rows, Cols: cols}
			Good(s)
			Size(s)
			Turned(s)
			for _, n := range []int{0, 1, 2, 4, 8, 16, 17} {
				anyRow(aRow(n), s, numbers)
			}
			for _, i := range numbers {
				Where(s, i)
				for _, j := range numbers {
					At(s, i, j)
					Tiles(s, i, j)
				}
			}
		}
	}
	for _, k := range slices.Concat(numbers, badExponents) {
		Even(k)
		Splits(k)
	}
}

func anyRow(l []uint64, s api.Shape, numbers []int) {
	Transpose(l, s)
	for _, i := range numbers {
		Row(l, s, i)
		Col(l, s, i)
	}
}

// The rules that the tests go by are the document's own: they are held against what is written out by hand.
func TestTheTestsOwnRules(t *testing.T) {
	if got := transposedOf([]uint64{1, 2, 3, 4, 5, 6, 7, 8}, shapeOf(1, 2)); !slices.Equal(got, []uint64{1, 5, 2, 6, 3, 7, 4, 8}) {
		t.Errorf("transposedOf = %v", got)
	}
	if from, to := cutsOf(8, 3); !slices.Equal(from, []int{0, 3, 6}) || !slices.Equal(to, []int{3, 6, 8}) {
		t.Errorf("cutsOf(8, 3) = %v, %v", from, to)
	}
	if !goodOf(shapeOf(16, 16)) || goodOf(shapeOf(16, 17)) || goodOf(shapeOf(32, 32)) || goodOf(api.Shape{Rows: 3, Cols: 4}) {
		t.Error("goodOf tells another thing")
	}
}
