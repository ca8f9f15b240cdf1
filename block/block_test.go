package block_test

import (
	"math"
	"math/big"
	"slices"
	"testing"

	"abacist/api"
	"abacist/block"
	"abacist/shape"
)

const (
	prime = api.P
	top   = uint64(math.MaxUint64)
	most  = 1 << 20 // how many words a block has at the most
)

// farPlaces are rows and columns that no block has.
var farPlaces = []int{most, most + 1, 1 << 31, 1 << 32, 1<<32 + 1, 1 << 62, math.MaxInt - 1, math.MaxInt, -1, -2, -3, -most, -1 << 32, -1 << 62, math.MinInt + 1, math.MinInt}

// badSides are how many rows or columns no right shape has.
var badSides = []int{0, -1, -2, -4, 3, 5, 6, 7, 12, most - 1, most + 1, 3 << 20, 1<<32 - 1, 1<<32 + 1, 1 << 33, 1 << 62, 1<<62 + 1, -1 << 32, -1 << 62, math.MaxInt, math.MinInt, math.MinInt + 1}

// turnSides are sides of tiles by which a block may be turned: small ones, far more than a block has, and the greatest int.
var turnSides = []int{1, 2, 3, 4, 5, 6, 7, 8, 9, 15, 16, 17, 31, 32, 33, 100, 1000, most - 1, most, most + 1, 1 << 32, 1 << 62, math.MaxInt - 1, math.MaxInt}

// shapeOf is a shape of 2^a rows and 2^b columns.
func shapeOf(a, b int) api.Shape {
	return api.Shape{Rows: 1 << a, Cols: 1 << b}
}

// shapesOf are the shapes of 2^k words: all of them, from one row to one column.
func shapesOf(k int) []api.Shape {
	var all []api.Shape
	for a := range k + 1 {
		all = append(all, shapeOf(a, k-a))
	}
	return all
}

// shapesUpTo are the shapes of at most 2^k words.
func shapesUpTo(k int) []api.Shape {
	var all []api.Shape
	for i := range k + 1 {
		all = append(all, shapesOf(i)...)
	}
	return all
}

// wrongShapes are those with a side that no right shape has, and such whose product, or what an int keeps of it, is that of a block.
func wrongShapes() []api.Shape {
	all := []api.Shape{{Rows: -2, Cols: -4}, {Rows: -1, Cols: -1}, {Rows: 1 << 32, Cols: 1 << 32}, {Rows: 1 << 62, Cols: 4}, {Rows: math.MinInt, Cols: 2}, {Rows: 2, Cols: math.MinInt}, shapeOf(1, 32), shapeOf(17, 16), shapeOf(62, 62)}
	for _, bad := range badSides {
		for _, other := range []int{1, 2, 4, 8, most, bad} {
			all = append(all, api.Shape{Rows: bad, Cols: other}, api.Shape{Rows: other, Cols: bad})
		}
	}
	return all
}

// mixed are n words that a fixed rule mixes, some of them from P on.
func mixed(n int, seed uint64) []uint64 {
	l := make([]uint64, n)
	w := seed
	for i := range l {
		w = w*6364136223846793005 + 1442695040888963407
		l[i] = w ^ w>>29
		if i%5 == 3 {
			l[i] = prime + w>>33
		}
	}
	return l
}

// linesOf are the rows of words that lie in a shape, cut out one behind the other.
func linesOf(l []uint64, s api.Shape) [][]uint64 {
	return slices.Collect(slices.Chunk(slices.Clone(l), s.Cols))
}

// turnedOf is the words column by column.
func turnedOf(l []uint64, s api.Shape) []uint64 {
	var all []uint64
	for c := range s.Cols {
		for _, line := range linesOf(l, s) {
			all = append(all, line[c])
		}
	}
	return all
}

// partOf is the words of a tile that lies in the shape.
func partOf(l []uint64, s api.Shape, t api.Tile) []uint64 {
	var all []uint64
	for _, line := range linesOf(l, s)[t.Row : t.Row+t.Rows] {
		all = append(all, line[t.Col:t.Col+t.Cols]...)
	}
	return all
}

// laidOf is the words of a shape with other ones written over a tile.
func laidOf(l []uint64, s api.Shape, t api.Tile, over []uint64) []uint64 {
	lines := linesOf(l, s)
	for i, w := range over {
		lines[t.Row+i/t.Cols][t.Col+i%t.Cols] = w
	}
	return slices.Concat(lines...)
}

// lies tells whether a tile of a right shape lies in a right one as the document says it, by exact numbers.
func lies(s api.Shape, t api.Tile) bool {
	return liesAlong(s.Rows, t.Row, t.Rows) && liesAlong(s.Cols, t.Col, t.Cols)
}

// liesAlong tells whether a power of two of places, from one on, lies in those below n.
func liesAlong(n, from, count int) bool {
	end := new(big.Int).Add(big.NewInt(int64(from)), big.NewInt(int64(count)))
	power := false
	for k := range 33 {
		power = power || count == 1<<k
	}
	return power && from >= 0 && end.Cmp(big.NewInt(int64(n))) <= 0
}

// share tells whether two tiles have a place that is the same: a row of both, and a column of both.
func share(a, b api.Tile) bool {
	return shareAlong(a.Row, b.Row, a.Rows, b.Rows) && shareAlong(a.Col, b.Col, a.Cols, b.Cols)
}

// shareAlong tells whether n places from i on and m places from j on have one that is the same, place by place.
func shareAlong(i, j, n, m int) bool {
	places := map[int]bool{}
	for at := range n {
		places[i+at] = true
	}
	for at := range m {
		if places[j+at] {
			return true
		}
	}
	return false
}

// edgesOf are places along a side: all from two below it to two beyond it, and those far away.
func edgesOf(n int) []int {
	all := slices.Clone(farPlaces)
	for i := -2; i < n+3; i++ {
		all = append(all, i)
	}
	return all
}

// must is the block of words that there is a block of.
func must(t *testing.T, s api.Shape, l []uint64) *block.Block {
	t.Helper()
	b, e := block.Of(s, l)
	if b == nil || e != api.OK {
		t.Fatalf("Of(%v, %d words) = %v, %d", s, len(l), b, e)
	}
	return b
}

// mustBe holds a block's shape and words against those that are asked for.
func mustBe(t *testing.T, name string, b *block.Block, s api.Shape, want []uint64) {
	t.Helper()
	if b == nil {
		t.Fatalf("%s: no block, want %v", name, s)
	}
	got := b.Words()
	if b.Shape() != s || len(got) != len(want) {
		t.Fatalf("%s: %v and %d words, want %v and %d", name, b.Shape(), len(got), s, len(want))
	}
	for i, w := range want {
		if got[i] != w {
			t.Fatalf("%s in %v: %d at %d, want %d", name, s, got[i], i, w)
		}
	}
}

// mustRefuse holds a call's error against the one that is asked for, and the block against what it was ahead of the call (R5).
func mustRefuse(t *testing.T, name string, b *block.Block, call func() api.Errno, want api.Errno) {
	t.Helper()
	s, l := b.Shape(), b.Words()
	if e := call(); e != want {
		t.Fatalf("%s of a block in %v: %d, want %d", name, s, e, want)
	}
	mustBe(t, name+", refused", b, s, l)
}

// mustNone holds no block beside an error (R3).
func mustNone(t *testing.T, name string, b *block.Block, e, want api.Errno) {
	t.Helper()
	if b != nil || e != want {
		t.Fatalf("%s: %v, %d, want no block and %d", name, b, e, want)
	}
}

// P12.1: New is a block of noughts, of each shape up to just 2^20 words.
func TestNew(t *testing.T) {
	for _, s := range shapesUpTo(10) {
		mustBe(t, "New", block.New(s), s, make([]uint64, s.Rows*s.Cols))
	}
	for _, k := range []int{11, 15, 19, 20} {
		noughts := make([]uint64, 1<<k)
		for _, s := range shapesOf(k) {
			mustBe(t, "New", block.New(s), s, noughts)
		}
	}
}

// P12.1: nil of New: the shape isn't right, or has more than 2^20 words.
func TestNewOfNoBlock(t *testing.T) {
	for k := 21; k <= 32; k++ {
		for _, s := range shapesOf(k) {
			if b := block.New(s); b != nil {
				t.Errorf("New(%v) is a block", s)
			}
		}
	}
	for _, s := range wrongShapes() {
		if b := block.New(s); b != nil {
			t.Errorf("New(%v) is a block", s)
		}
	}
}

// P12.1: Of is the block of the words, as they are, those from P on too.
func TestOf(t *testing.T) {
	for _, s := range shapesUpTo(10) {
		l := mixed(s.Rows*s.Cols, 1)
		mustBe(t, "Of", must(t, s, l), s, l)
	}
	l := mixed(most, 2)
	for _, s := range shapesOf(20) {
		mustBe(t, "Of", must(t, s, l), s, l)
	}
	odd := []uint64{prime, top, prime - 1, prime + 1}
	mustBe(t, "Of", must(t, shapeOf(1, 1), odd), shapeOf(1, 1), odd)
	mustBe(t, "Of", must(t, shapeOf(0, 0), []uint64{top}), shapeOf(0, 0), []uint64{top})
}

// P12.1 and R3: ErrOdd of words that are fewer than the shape asks, more, or none.
func TestOfOtherLengths(t *testing.T) {
	for _, s := range shapesUpTo(6) {
		n := s.Rows * s.Cols
		for _, other := range []int{0, 1, n - 1, n + 1, n / 2, 2 * n, s.Rows, s.Cols, s.Rows + s.Cols} {
			if other == n {
				continue
			}
			b, e := block.Of(s, mixed(other, 3))
			mustNone(t, "Of", b, e, api.ErrOdd)
		}
		b, e := block.Of(s, nil)
		mustNone(t, "Of", b, e, api.ErrOdd)
		b, e = block.Of(s, mixed(n, 3)[:n-1])
		mustNone(t, "Of", b, e, api.ErrOdd)
	}
	for _, n := range []int{most - 1, most + 1} {
		b, e := block.Of(shapeOf(10, 10), make([]uint64, n))
		mustNone(t, "Of", b, e, api.ErrOdd)
	}
}

// P12.1: ErrOdd of Of where there is no such block, though there are as many words as the product tells.
func TestOfNoBlock(t *testing.T) {
	lists := [][]uint64{nil, {}, mixed(1, 4), mixed(2, 4), mixed(8, 4), mixed(9, 4), mixed(12, 4), mixed(16, 4)}
	for _, s := range wrongShapes() {
		for _, l := range lists {
			b, e := block.Of(s, l)
			mustNone(t, "Of", b, e, api.ErrOdd)
		}
	}
	for _, n := range []int{3, 5, 6, 7, 12} {
		for _, s := range []api.Shape{{Rows: n, Cols: 1}, {Rows: 1, Cols: n}, {Rows: n, Cols: 2}, {Rows: n, Cols: n}} {
			b, e := block.Of(s, make([]uint64, s.Rows*s.Cols))
			mustNone(t, "Of", b, e, api.ErrOdd)
		}
	}
	for _, s := range shapesOf(21) {
		b, e := block.Of(s, make([]uint64, 2*most))
		mustNone(t, "Of", b, e, api.ErrOdd)
	}
}

// P12.1 and R4: what Of was handed is neither changed nor kept, and what lies behind it in its memory isn't read.
func TestOfKeepsNoWords(t *testing.T) {
	memory := mixed(16, 5)
	before := slices.Clone(memory)
	b := must(t, shapeOf(1, 2), memory[4:12])
	b.Put(0, 0, 1)
	b.Put(1, 3, 2)
	b.Turn(1)
	b.Swap(api.Tile{Shape: shapeOf(0, 0)}, 1, 1)
	if !slices.Equal(memory, before) {
		t.Error("words that were handed to Of have changed")
	}
	b = must(t, shapeOf(1, 2), memory[4:12])
	clear(memory)
	mustBe(t, "a block behind a change of its list", b, shapeOf(1, 2), before[4:12])
}

// P12.1 and R4: what Words answers is new: written over and grown, it changes no block and no other answer.
func TestWordsAreNew(t *testing.T) {
	for _, s := range shapesUpTo(4) {
		l := mixed(s.Rows*s.Cols, 6)
		b := must(t, s, l)
		w, other := b.Words(), b.Words()
		clear(append(w, 1, 2, 3))
		clear(w)
		mustBe(t, "a block behind a change of its answer", b, s, l)
		if !slices.Equal(other, l) {
			t.Error("another answer of Words has changed")
		}
		b.Put(0, 0, ^l[0])
		if !slices.Equal(other, l) {
			t.Error("an answer of Words has changed by Put")
		}
	}
}

// P12.1: Get of each row and column, and ErrRange, with a word of 0, of those that aren't there, though a place of the block may be told by them.
func TestGet(t *testing.T) {
	for _, s := range shapesUpTo(5) {
		l := mixed(s.Rows*s.Cols, 7)
		b := must(t, s, l)
		lines := linesOf(l, s)
		for _, r := range edgesOf(s.Rows) {
			for _, c := range edgesOf(s.Cols) {
				want, wantE := uint64(0), api.ErrRange
				if r >= 0 && r < s.Rows && c >= 0 && c < s.Cols {
					want, wantE = lines[r][c], api.OK
				}
				if got, e := b.Get(r, c); got != want || e != wantE {
					t.Fatalf("Get(%d, %d) in %v = %d, %d, want %d, %d", r, c, s, got, e, want, wantE)
				}
			}
		}
		mustBe(t, "a block behind Get", b, s, l)
	}
}

// P12.1: Put writes the word, as it is, at its row and column and nowhere else; ErrRange, and nothing is written, where there is none.
func TestPut(t *testing.T) {
	for _, s := range shapesUpTo(5) {
		l := mixed(s.Rows*s.Cols, 8)
		b := must(t, s, l)
		for _, r := range edgesOf(s.Rows) {
			for _, c := range edgesOf(s.Cols) {
				if r < 0 || r >= s.Rows || c < 0 || c >= s.Cols {
					mustRefuse(t, "Put", b, func() api.Errno { return b.Put(r, c, 1) }, api.ErrRange)
					continue
				}
				for _, w := range []uint64{0, 1, prime - 1, prime, top} {
					if e := b.Put(r, c, w); e != api.OK {
						t.Fatalf("Put(%d, %d) in %v: %d", r, c, s, e)
					}
					l = laidOf(l, s, api.Tile{Shape: shapeOf(0, 0), Row: r, Col: c}, []uint64{w})
					mustBe(t, "Put", b, s, l)
				}
			}
		}
	}
}

// P12.1: Get and Put at the corners of blocks of just 2^20 words, and one beyond each.
func TestGetAndPutOfTheLimit(t *testing.T) {
	for _, s := range []api.Shape{shapeOf(0, 20), shapeOf(10, 10), shapeOf(20, 0), shapeOf(3, 17)} {
		b := block.New(s)
		for i, at := range [][2]int{{0, 0}, {0, s.Cols - 1}, {s.Rows - 1, 0}, {s.Rows - 1, s.Cols - 1}} {
			w := top - uint64(i)
			if e := b.Put(at[0], at[1], w); e != api.OK {
				t.Errorf("Put at %v in %v: %d", at, s, e)
			}
			got, e := b.Get(at[0], at[1])
			if got != w || e != api.OK || b.Words()[at[0]*s.Cols+at[1]] != w {
				t.Errorf("Get at %v in %v: %d, %d", at, s, got, e)
			}
		}
		for _, at := range [][2]int{{s.Rows, 0}, {0, s.Cols}, {s.Rows, s.Cols}, {-1, 0}, {0, -1}, {-1, s.Cols}, {1, -1}} {
			if w, e := b.Get(at[0], at[1]); w != 0 || e != api.ErrRange {
				t.Errorf("Get at %v in %v: %d, %d", at, s, w, e)
			}
			mustRefuse(t, "Put", b, func() api.Errno { return b.Put(at[0], at[1], 7) }, api.ErrRange)
		}
	}
}

// P12.2: the chapter's example, and some that are written out.
func TestTurnAtEdges(t *testing.T) {
	for _, c := range []struct {
		s       api.Shape
		l, want []uint64
	}{
		{shapeOf(1, 1), []uint64{1, 2, 3, 4}, []uint64{1, 3, 2, 4}},
		{shapeOf(1, 2), []uint64{1, 2, 3, 4, 5, 6, 7, 8}, []uint64{1, 5, 2, 6, 3, 7, 4, 8}},
		{shapeOf(2, 1), []uint64{1, 2, 3, 4, 5, 6, 7, 8}, []uint64{1, 3, 5, 7, 2, 4, 6, 8}},
		{shapeOf(0, 0), []uint64{top}, []uint64{top}},
		{shapeOf(0, 2), []uint64{4, prime, 2, 1}, []uint64{4, prime, 2, 1}},
		{shapeOf(2, 0), []uint64{4, 3, top, 1}, []uint64{4, 3, top, 1}},
	} {
		for _, side := range turnSides {
			b := must(t, c.s, c.l)
			if e := b.Turn(side); e != api.OK {
				t.Errorf("Turn(%d) in %v: %d", side, c.s, e)
			}
			mustBe(t, "Turn", b, shape.Turned(c.s), c.want)
		}
	}
}

// P12.2: of each shape, whatever the side, those that divide it and those that don't: the words column by column, which are layer 6's transposed ones.
func TestTurn(t *testing.T) {
	for _, s := range shapesUpTo(8) {
		l := mixed(s.Rows*s.Cols, 9)
		want := turnedOf(l, s)
		if six, e := shape.Transpose(l, s); !slices.Equal(six, want) || e != api.OK {
			t.Fatalf("Transpose in %v: %d", s, e)
		}
		for _, side := range turnSides {
			b := must(t, s, l)
			if e := b.Turn(side); e != api.OK {
				t.Fatalf("Turn(%d) in %v: %d", side, s, e)
			}
			mustBe(t, "Turn", b, api.Shape{Rows: s.Cols, Cols: s.Rows}, want)
		}
	}
}

// P12.2: blocks of just 2^20 words, of more tiles than layer 6 cuts, too.
func TestTurnOfTheLimit(t *testing.T) {
	l := mixed(most, 10)
	for _, s := range []api.Shape{shapeOf(0, 20), shapeOf(20, 0), shapeOf(10, 10), shapeOf(7, 13), shapeOf(13, 7)} {
		want, _ := shape.Transpose(l, s)
		for _, side := range []int{1, 2, 3, 64, 1000, 1024, most - 1, most, math.MaxInt} {
			b := must(t, s, l)
			if e := b.Turn(side); e != api.OK {
				t.Fatalf("Turn(%d) in %v: %d", side, s, e)
			}
			mustBe(t, "Turn", b, shape.Turned(s), want)
		}
	}
}

// P12.2 and R5: ErrArg of a side below 1; the block is as it was, and is still turned.
func TestTurnByNoSide(t *testing.T) {
	for _, s := range shapesUpTo(5) {
		l := mixed(s.Rows*s.Cols, 11)
		b := must(t, s, l)
		for _, side := range []int{0, -1, -2, -s.Rows, -most, -1 << 32, math.MinInt + 1, math.MinInt} {
			mustRefuse(t, "Turn", b, func() api.Errno { return b.Turn(side) }, api.ErrArg)
		}
		b.Turn(2)
		mustBe(t, "Turn behind one that was refused", b, shape.Turned(s), turnedOf(l, s))
	}
}

// P12.2: what calls tell of a turned block goes by its turned shape.
func TestTurnedBlock(t *testing.T) {
	b := must(t, shapeOf(1, 2), []uint64{1, 2, 3, 4, 5, 6, 7, 8})
	b.Turn(3)
	if w, e := b.Get(3, 0); w != 4 || e != api.OK {
		t.Errorf("Get(3, 0) = %d, %d", w, e)
	}
	if w, e := b.Get(1, 3); w != 0 || e != api.ErrRange {
		t.Errorf("Get(1, 3) = %d, %d", w, e)
	}
	if e := b.Put(2, 1, 9); e != api.OK {
		t.Errorf("Put(2, 1): %d", e)
	}
	p, e := b.Part(api.Tile{Shape: shapeOf(1, 1), Row: 2})
	if e != api.OK {
		t.Errorf("Part: %d", e)
	}
	mustBe(t, "Part", p, shapeOf(1, 1), []uint64{3, 9, 4, 8})
	if e := b.Swap(api.Tile{Shape: shapeOf(0, 1)}, 3, 0); e != api.OK {
		t.Errorf("Swap: %d", e)
	}
	mustBe(t, "Swap", b, shapeOf(2, 1), []uint64{4, 8, 2, 6, 3, 9, 1, 5})
	if e := b.Lay(1, 0, p); e != api.OK {
		t.Errorf("Lay: %d", e)
	}
	mustBe(t, "Lay", b, shapeOf(2, 1), []uint64{4, 8, 3, 9, 4, 8, 1, 5})
}

// tilesOf are tiles along a shape's edges: of right shapes that fit in and of greater ones, at all places from two below to two beyond, and far away.
func tilesOf(s api.Shape) []api.Tile {
	var all []api.Tile
	for _, own := range shapesUpTo(6) {
		if own.Rows > 2*s.Rows || own.Cols > 2*s.Cols {
			continue
		}
		for _, r := range edgesOf(s.Rows) {
			for _, c := range edgesOf(s.Cols) {
				all = append(all, api.Tile{Shape: own, Row: r, Col: c})
			}
		}
	}
	return all
}

// wrongTiles are tiles whose shape isn't right, at places where one of a word would lie, and elsewhere.
func wrongTiles() []api.Tile {
	var all []api.Tile
	for _, s := range append(wrongShapes(), api.Shape{Rows: 3, Cols: 2}, api.Shape{Rows: 2, Cols: 3}, api.Shape{Rows: 3, Cols: 3}, api.Shape{}) {
		for _, r := range []int{0, 1, 3, 4, -1, math.MaxInt, math.MinInt} {
			for _, c := range []int{0, 1, 3, 4, -1, math.MaxInt, math.MinInt} {
				all = append(all, api.Tile{Shape: s, Row: r, Col: c})
			}
		}
	}
	return all
}

// greatTiles are tiles of right shapes that no block of 4 by 4 words holds, and of which no end is in an int, some of them.
func greatTiles() []api.Tile {
	var all []api.Tile
	for _, s := range []api.Shape{shapeOf(3, 0), shapeOf(0, 3), shapeOf(20, 0), shapeOf(0, 20), shapeOf(32, 0), shapeOf(0, 32), shapeOf(16, 16)} {
		for _, r := range edgesOf(4) {
			for _, c := range []int{0, 1, 4, -1, math.MaxInt, math.MinInt} {
				all = append(all, api.Tile{Shape: s, Row: r, Col: c}, api.Tile{Shape: s, Row: c, Col: r})
			}
		}
	}
	return all
}

// P12.3, R3 and R7: Part is the block of the words of a tile that lies in the block; ErrRange of those that stand over an edge, by one or by far.
func TestPart(t *testing.T) {
	for _, s := range shapesUpTo(5) {
		l := mixed(s.Rows*s.Cols, 12)
		b := must(t, s, l)
		for _, tile := range tilesOf(s) {
			p, e := b.Part(tile)
			if !lies(s, tile) {
				mustNone(t, "Part", p, e, api.ErrRange)
				continue
			}
			if e != api.OK {
				t.Fatalf("Part(%v) in %v: %d", tile, s, e)
			}
			mustBe(t, "Part", p, tile.Shape, partOf(l, s, tile))
		}
		mustBe(t, "a block behind Part", b, s, l)
	}
}

func TestPartAtEdges(t *testing.T) {
	b := must(t, shapeOf(1, 2), []uint64{1, 2, 3, top, 5, 6, prime, 8})
	for _, c := range []struct {
		t    api.Tile
		want []uint64
	}{
		{api.Tile{Shape: shapeOf(1, 2)}, []uint64{1, 2, 3, top, 5, 6, prime, 8}},
		{api.Tile{Shape: shapeOf(1, 1), Col: 1}, []uint64{2, 3, 6, prime}},
		{api.Tile{Shape: shapeOf(1, 1), Col: 2}, []uint64{3, top, prime, 8}},
		{api.Tile{Shape: shapeOf(0, 2), Row: 1}, []uint64{5, 6, prime, 8}},
		{api.Tile{Shape: shapeOf(1, 0), Col: 3}, []uint64{top, 8}},
		{api.Tile{Shape: shapeOf(0, 0)}, []uint64{1}},
		{api.Tile{Shape: shapeOf(0, 0), Row: 1, Col: 3}, []uint64{8}},
	} {
		p, e := b.Part(c.t)
		if e != api.OK {
			t.Errorf("Part(%v): %d", c.t, e)
		}
		mustBe(t, "Part", p, c.t.Shape, c.want)
	}
}

// P12.3: ErrRange of Part where the tile's shape isn't right, no power of two or too great.
func TestPartOfWrongTiles(t *testing.T) {
	b := must(t, shapeOf(2, 2), mixed(16, 13))
	for _, tile := range slices.Concat(wrongTiles(), greatTiles()) {
		p, e := b.Part(tile)
		mustNone(t, "Part", p, e, api.ErrRange)
	}
}

// P12.3 and R4: a part is new: whatever is done to it changes nothing of the block, and the other way about; of the whole block too.
func TestPartIsNew(t *testing.T) {
	l := mixed(16, 14)
	b := must(t, shapeOf(2, 2), l)
	for _, tile := range []api.Tile{{Shape: shapeOf(2, 2)}, {Shape: shapeOf(0, 2), Row: 3}, {Shape: shapeOf(1, 1), Row: 1, Col: 2}} {
		p, _ := b.Part(tile)
		q, _ := b.Part(tile)
		want := partOf(l, b.Shape(), tile)
		p.Put(0, 0, ^want[0])
		p.Turn(1)
		p.Swap(api.Tile{Shape: shapeOf(0, 0)}, p.Shape().Rows-1, 0)
		mustBe(t, "a block behind a change of its part", b, shapeOf(2, 2), l)
		mustBe(t, "a part behind a change of a like one", q, tile.Shape, want)
		clear(q.Words())
		other := must(t, shapeOf(2, 2), l)
		q, _ = other.Part(tile)
		other.Lay(0, 0, block.New(shapeOf(2, 2)))
		mustBe(t, "a part behind a change of its block", q, tile.Shape, want)
	}
}

// P12.3 and R5: Lay writes a block's words at a row and a column and behind, and nowhere else; ErrRange, and nothing is written, where it doesn't lie in the block.
func TestLay(t *testing.T) {
	for _, s := range shapesUpTo(4) {
		l := mixed(s.Rows*s.Cols, 15)
		b := must(t, s, l)
		for _, tile := range tilesOf(s) {
			over := mixed(tile.Rows*tile.Cols, 16)
			p := must(t, tile.Shape, over)
			if !lies(s, tile) {
				mustRefuse(t, "Lay", b, func() api.Errno { return b.Lay(tile.Row, tile.Col, p) }, api.ErrRange)
				mustBe(t, "what wasn't laid", p, tile.Shape, over)
				continue
			}
			laid := must(t, s, l)
			if e := laid.Lay(tile.Row, tile.Col, p); e != api.OK {
				t.Fatalf("Lay of %v in %v: %d", tile, s, e)
			}
			mustBe(t, "Lay", laid, s, laidOf(l, s, tile, over))
			mustBe(t, "what was laid", p, tile.Shape, over)
		}
	}
}

// P12.3 and R2: ErrArg of Lay of no block, ahead of ErrRange.
func TestLayOfNil(t *testing.T) {
	for _, s := range shapesUpTo(4) {
		b := must(t, s, mixed(s.Rows*s.Cols, 17))
		for _, r := range edgesOf(s.Rows) {
			for _, c := range []int{0, s.Cols - 1, s.Cols, -1, math.MaxInt, math.MinInt} {
				mustRefuse(t, "Lay", b, func() api.Errno { return b.Lay(r, c, nil) }, api.ErrArg)
			}
		}
	}
}

// P12.3: a block that is laid into itself lies there at its first place alone, and stays.
func TestLayOfItself(t *testing.T) {
	for _, s := range shapesUpTo(5) {
		l := mixed(s.Rows*s.Cols, 18)
		b := must(t, s, l)
		if e := b.Lay(0, 0, b); e != api.OK {
			t.Errorf("Lay of a block in %v into itself: %d", s, e)
		}
		mustBe(t, "a block that was laid into itself", b, s, l)
		for _, at := range [][2]int{{1, 0}, {0, 1}, {-1, 0}, {0, -1}, {s.Rows, 0}, {0, s.Cols}, {math.MaxInt, 0}, {0, math.MinInt}} {
			mustRefuse(t, "Lay", b, func() api.Errno { return b.Lay(at[0], at[1], b) }, api.ErrRange)
		}
	}
}

// P12.3 and R4: what was laid isn't kept, and isn't a way into it.
func TestLayKeepsNoBlock(t *testing.T) {
	for _, s := range []api.Shape{shapeOf(2, 2), shapeOf(0, 4), shapeOf(1, 1)} {
		l := mixed(s.Rows*s.Cols, 19)
		b, p := block.New(s), must(t, s, l)
		b.Lay(0, 0, p)
		p.Put(0, 0, ^l[0])
		p.Turn(1)
		mustBe(t, "a block behind a change of what was laid", b, s, l)
		p = must(t, s, l)
		b.Lay(0, 0, p)
		b.Put(0, 0, ^l[0])
		mustBe(t, "what was laid, behind a change of the block", p, s, l)
	}
}

// P12.3 and P12.5: blocks of just 2^20 words: parts of them, laid at their corners.
func TestPartsOfTheLimit(t *testing.T) {
	for _, s := range []api.Shape{shapeOf(0, 20), shapeOf(20, 0), shapeOf(10, 10)} {
		l := mixed(most, 20)
		b := must(t, s, l)
		own := api.Shape{Rows: (s.Rows + 1) / 2, Cols: (s.Cols + 1) / 2}
		for _, tile := range []api.Tile{{Shape: s}, {Shape: own}, {Shape: own, Row: s.Rows - own.Rows, Col: s.Cols - own.Cols}} {
			p, e := b.Part(tile)
			if e != api.OK {
				t.Fatalf("Part(%v) in %v: %d", tile, s, e)
			}
			mustBe(t, "Part", p, tile.Shape, partOf(l, s, tile))
			laid := block.New(s)
			if e := laid.Lay(tile.Row, tile.Col, p); e != api.OK {
				t.Fatalf("Lay of %v in %v: %d", tile, s, e)
			}
			mustBe(t, "Lay", laid, s, laidOf(make([]uint64, most), s, tile, p.Words()))
		}
		for _, tile := range []api.Tile{{Shape: s, Row: 1}, {Shape: s, Col: 1}, {Shape: own, Row: s.Rows - own.Rows + 1}, {Shape: own, Col: s.Cols - own.Cols + 1}, {Shape: api.Shape{Rows: 2 * s.Rows, Cols: s.Cols}}, {Shape: api.Shape{Rows: s.Rows, Cols: 2 * s.Cols}}} {
			p, e := b.Part(tile)
			mustNone(t, "Part", p, e, api.ErrRange)
		}
	}
}

// swap holds one Swap against what the document says, and tells which answer it was.
func swap(t *testing.T, b *block.Block, tile api.Tile, r, c int) api.Errno {
	t.Helper()
	s, l := b.Shape(), b.Words()
	other := api.Tile{Shape: tile.Shape, Row: r, Col: c}
	call := func() api.Errno { return b.Swap(tile, r, c) }
	if !lies(s, tile) || !lies(s, other) {
		mustRefuse(t, "Swap", b, call, api.ErrRange)
		return api.ErrRange
	}
	if tile != other && share(tile, other) {
		mustRefuse(t, "Swap", b, call, api.ErrOdd)
		return api.ErrOdd
	}
	if e := call(); e != api.OK {
		t.Fatalf("Swap(%v, %d, %d) in %v: %d", tile, r, c, s, e)
	}
	want := laidOf(laidOf(l, s, tile, partOf(l, s, other)), s, other, partOf(l, s, tile))
	mustBe(t, "Swap", b, s, want)
	return api.OK
}

// P12.3: Swap of each two tiles of each shape: those that share no place change places, one with itself stays, ErrOdd of others, ErrRange where one stands over an edge; what lies outside them stays.
func TestSwap(t *testing.T) {
	answers := map[api.Errno]int{}
	for _, s := range slices.Concat(shapesUpTo(3), []api.Shape{shapeOf(2, 2), shapeOf(1, 3), shapeOf(3, 2)}) {
		b := must(t, s, mixed(s.Rows*s.Cols, 21))
		for _, own := range shapesUpTo(4) {
			for row := -1; row <= s.Rows; row++ {
				for col := -1; col <= s.Cols; col++ {
					for r := -1; r <= s.Rows; r++ {
						for c := -1; c <= s.Cols; c++ {
							answers[swap(t, b, api.Tile{Shape: own, Row: row, Col: col}, r, c)]++
						}
					}
				}
			}
		}
	}
	for _, e := range []api.Errno{api.OK, api.ErrRange, api.ErrOdd} {
		if answers[e] == 0 {
			t.Errorf("no Swap has answered %d", e)
		}
	}
}

func TestSwapAtEdges(t *testing.T) {
	two := shapeOf(1, 1)
	for _, c := range []struct {
		t     api.Tile
		r, c  int
		want  []uint64
		wantE api.Errno
	}{
		{api.Tile{Shape: two}, 0, 2, []uint64{3, 4, 1, 2, 7, 8, 5, 6}, api.OK},
		{api.Tile{Shape: two, Col: 2}, 0, 0, []uint64{3, 4, 1, 2, 7, 8, 5, 6}, api.OK},
		{api.Tile{Shape: shapeOf(0, 2)}, 1, 0, []uint64{5, 6, 7, 8, 1, 2, 3, 4}, api.OK},
		{api.Tile{Shape: shapeOf(1, 0)}, 0, 1, []uint64{2, 1, 3, 4, 6, 5, 7, 8}, api.OK},
		{api.Tile{Shape: shapeOf(0, 0), Row: 1, Col: 3}, 0, 0, []uint64{8, 2, 3, 4, 5, 6, 7, 1}, api.OK},
		{api.Tile{Shape: shapeOf(0, 1), Col: 1}, 1, 2, []uint64{1, 7, 8, 4, 5, 6, 2, 3}, api.OK},
		{api.Tile{Shape: two, Col: 1}, 0, 1, []uint64{1, 2, 3, 4, 5, 6, 7, 8}, api.OK},
		{api.Tile{Shape: shapeOf(1, 2)}, 0, 0, []uint64{1, 2, 3, 4, 5, 6, 7, 8}, api.OK},
		{api.Tile{Shape: two}, 0, 1, []uint64{1, 2, 3, 4, 5, 6, 7, 8}, api.ErrOdd},
		{api.Tile{Shape: two, Col: 2}, 0, 1, []uint64{1, 2, 3, 4, 5, 6, 7, 8}, api.ErrOdd},
		{api.Tile{Shape: shapeOf(0, 1), Col: 1}, 0, 2, []uint64{1, 2, 3, 4, 5, 6, 7, 8}, api.ErrOdd},
		{api.Tile{Shape: two}, 1, 0, []uint64{1, 2, 3, 4, 5, 6, 7, 8}, api.ErrRange},
		{api.Tile{Shape: two}, 0, 3, []uint64{1, 2, 3, 4, 5, 6, 7, 8}, api.ErrRange},
		{api.Tile{Shape: two, Row: 1}, 0, 0, []uint64{1, 2, 3, 4, 5, 6, 7, 8}, api.ErrRange},
		{api.Tile{Shape: two, Row: 1}, 1, 0, []uint64{1, 2, 3, 4, 5, 6, 7, 8}, api.ErrRange},
	} {
		b := must(t, shapeOf(1, 2), []uint64{1, 2, 3, 4, 5, 6, 7, 8})
		if e := b.Swap(c.t, c.r, c.c); e != c.wantE {
			t.Errorf("Swap(%v, %d, %d): %d, want %d", c.t, c.r, c.c, e, c.wantE)
		}
		mustBe(t, "Swap", b, shapeOf(1, 2), c.want)
	}
}

// P12.3, R2 and R7: ErrRange of Swap where one of the two is far away or of no right shape, of two that are the same or share places, too.
func TestSwapOfWrongTiles(t *testing.T) {
	b := must(t, shapeOf(2, 2), mixed(16, 22))
	for _, tile := range slices.Concat(wrongTiles(), greatTiles()) {
		for _, at := range [][2]int{{tile.Row, tile.Col}, {0, 0}, {tile.Row, 1}, {math.MaxInt, math.MinInt}} {
			if e := swap(t, b, tile, at[0], at[1]); e != api.ErrRange {
				t.Fatalf("Swap(%v, %v): %d", tile, at, e)
			}
		}
	}
	for _, own := range shapesUpTo(4) {
		for _, far := range farPlaces {
			for _, near := range []int{0, 1, far} {
				for _, call := range []func() api.Errno{
					func() api.Errno { return b.Swap(api.Tile{Shape: own}, far, near) },
					func() api.Errno { return b.Swap(api.Tile{Shape: own}, near, far) },
					func() api.Errno { return b.Swap(api.Tile{Shape: own, Row: far, Col: near}, 0, 0) },
					func() api.Errno { return b.Swap(api.Tile{Shape: own, Row: near, Col: far}, near, far) },
				} {
					mustRefuse(t, "Swap", b, call, api.ErrRange)
				}
			}
		}
	}
}

// P12.3: Swap in blocks of just 2^20 words.
func TestSwapOfTheLimit(t *testing.T) {
	for _, s := range []api.Shape{shapeOf(10, 10), shapeOf(0, 20), shapeOf(20, 0)} {
		b := must(t, s, mixed(most, 23))
		half := api.Shape{Rows: (s.Rows + 1) / 2, Cols: (s.Cols + 1) / 2}
		corner := api.Tile{Shape: half, Row: s.Rows - half.Rows, Col: s.Cols - half.Cols}
		for _, c := range []struct {
			tile api.Tile
			r, c int
			want api.Errno
		}{
			{corner, 0, 0, api.OK},
			{api.Tile{Shape: half}, corner.Row, corner.Col, api.OK},
			{corner, corner.Row, corner.Col, api.OK},
			{corner, corner.Row - min(1, corner.Row), corner.Col - min(1, corner.Col), api.ErrOdd},
			{api.Tile{Shape: half}, corner.Row + 1, corner.Col, api.ErrRange},
			{api.Tile{Shape: half}, corner.Row, corner.Col + 1, api.ErrRange},
			{api.Tile{Shape: shapeOf(0, 0)}, s.Rows - 1, s.Cols - 1, api.OK},
			{api.Tile{Shape: s}, 0, 0, api.OK},
		} {
			if e := swap(t, b, c.tile, c.r, c.c); e != c.want {
				t.Errorf("Swap(%v, %d, %d) in %v: %d", c.tile, c.r, c.c, s, e)
			}
		}
	}
}

// stacked are blocks of the same columns and of so many rows each, and the words of all of them.
func stacked(t *testing.T, cols int, rows ...int) ([]*block.Block, []uint64) {
	t.Helper()
	var blocks []*block.Block
	var all []uint64
	for i, n := range rows {
		l := mixed(n*cols, uint64(24+i))
		blocks = append(blocks, must(t, api.Shape{Rows: n, Cols: cols}, l))
		all = append(all, l...)
	}
	return blocks, all
}

// P12.4: Stack is all rows, one block's behind the other's, of like and of unlike numbers of rows.
func TestStack(t *testing.T) {
	for _, cols := range []int{1, 2, 4, 8} {
		for _, rows := range [][]int{{1}, {2}, {8}, {1, 1}, {4, 4}, {1, 1, 2}, {2, 1, 1}, {1, 2, 1}, {4, 2, 1, 1}, {2, 2, 2, 2}, {1, 1, 1, 1}, {8, 8, 16}, slices.Repeat([]int{1}, 256), {1, 1, 1, 1, 4, 8, 16, 16, 16}} {
			blocks, want := stacked(t, cols, rows...)
			s := api.Shape{Rows: len(want) / cols, Cols: cols}
			b, e := block.Stack(blocks...)
			if e != api.OK {
				t.Fatalf("Stack of %v rows: %d", rows, e)
			}
			mustBe(t, "Stack", b, s, want)
		}
	}
	two := must(t, shapeOf(1, 1), []uint64{1, prime, 3, top})
	b, e := block.Stack(two, two)
	if e != api.OK {
		t.Errorf("Stack of one block twice: %d", e)
	}
	mustBe(t, "Stack of one block twice", b, shapeOf(2, 1), []uint64{1, prime, 3, top, 1, prime, 3, top})
}

// P12.4 and R3: ErrOdd where there is no block of so many rows, or where columns are unlike.
func TestStackOfNoBlock(t *testing.T) {
	for _, cols := range []int{1, 2, 4, 8} {
		for _, rows := range [][]int{{1, 2}, {2, 1}, {1, 1, 1}, {2, 2, 2}, {4, 1}, {1, 2, 4}, {2, 2, 1}, {4, 4, 4}, {1, 1, 1, 1, 1}, {8, 2, 2}} {
			blocks, _ := stacked(t, cols, rows...)
			b, e := block.Stack(blocks...)
			mustNone(t, "Stack", b, e, api.ErrOdd)
		}
	}
	one, two, four := block.New(shapeOf(1, 0)), block.New(shapeOf(1, 1)), block.New(shapeOf(1, 2))
	turned := block.New(shapeOf(1, 2))
	turned.Turn(1)
	for _, l := range [][]*block.Block{{one, two}, {two, one}, {two, two, two, four}, {four, two, two, two}, {two, four, two, two}, {one, one, two}, {four, turned}, {block.New(shapeOf(0, 2)), block.New(shapeOf(2, 0))}} {
		b, e := block.Stack(l...)
		mustNone(t, "Stack", b, e, api.ErrOdd)
	}
}

// P12.4, R2 and R3: ErrArg of no blocks, and where one is nil, the last of them too; ahead of ErrOdd.
func TestStackOfNil(t *testing.T) {
	b, e := block.Stack()
	mustNone(t, "Stack", b, e, api.ErrArg)
	one, two := block.New(shapeOf(1, 1)), block.New(shapeOf(2, 2))
	for _, l := range [][]*block.Block{nil, {}, {nil}, {nil, nil}, {nil, one}, {one, nil}, {one, one, nil}, {one, nil, one}, {one, two, nil}, {nil, one, two}, {one, nil, two}, {one, one, one, nil}, {one, one, one, one, nil}} {
		b, e := block.Stack(l...)
		mustNone(t, "Stack", b, e, api.ErrArg)
	}
	great := block.New(shapeOf(10, 10))
	b, e = block.Stack(great, great, nil)
	mustNone(t, "Stack", b, e, api.ErrArg)
}

// P12.4: stacks of just 2^20 words, and ErrOdd of more than a block may have, twice as many or far more.
func TestStackOfTheLimit(t *testing.T) {
	for _, s := range []api.Shape{shapeOf(0, 20), shapeOf(10, 10), shapeOf(20, 0)} {
		l := mixed(most, 30)
		b := must(t, s, l)
		same, e := block.Stack(b)
		if e != api.OK {
			t.Errorf("Stack of a block in %v: %d", s, e)
		}
		mustBe(t, "Stack", same, s, l)
		for _, n := range []int{2, 3, 4, 1 << 12, 1 << 13} {
			none, e := block.Stack(slices.Repeat([]*block.Block{b}, n)...)
			mustNone(t, "Stack", none, e, api.ErrOdd)
		}
	}
	for _, s := range []api.Shape{shapeOf(0, 19), shapeOf(9, 10), shapeOf(19, 0)} {
		l := mixed(most/2, 31)
		b := must(t, s, l)
		all, e := block.Stack(b, b)
		if e != api.OK {
			t.Errorf("Stack of two blocks in %v: %d", s, e)
		}
		mustBe(t, "Stack", all, api.Shape{Rows: 2 * s.Rows, Cols: s.Cols}, slices.Concat(l, l))
		none, e := block.Stack(b, b, b)
		mustNone(t, "Stack", none, e, api.ErrOdd)
		none, e = block.Stack(b, b, b, b)
		mustNone(t, "Stack", none, e, api.ErrOdd)
	}
}

// P12.4 and R4: a stack is new, of one block too; the list and its blocks are neither changed nor kept.
func TestStackIsNew(t *testing.T) {
	for _, rows := range [][]int{{4}, {2, 2}, {1, 1, 2}} {
		blocks, want := stacked(t, 2, rows...)
		list := slices.Clone(blocks)
		b, _ := block.Stack(list...)
		if !slices.Equal(list, blocks) {
			t.Error("Stack has changed its list")
		}
		b.Put(0, 0, ^want[0])
		b.Turn(1)
		clear(list)
		at := 0
		for i, n := range rows {
			mustBe(t, "a block behind a change of its stack", blocks[i], api.Shape{Rows: n, Cols: 2}, want[at:at+2*n])
			at += 2 * n
		}
		b, _ = block.Stack(blocks...)
		for _, one := range blocks {
			one.Lay(0, 0, block.New(one.Shape()))
			one.Turn(1)
		}
		mustBe(t, "a stack behind a change of its blocks", b, shapeOf(2, 1), want)
	}
}

// P12.5: turned twice it is the same, whatever the two sides.
func TestTurnedTwice(t *testing.T) {
	for _, s := range shapesUpTo(6) {
		l := mixed(s.Rows*s.Cols, 32)
		b := must(t, s, l)
		for _, first := range turnSides {
			for _, second := range turnSides {
				if b.Turn(first) != api.OK || b.Turn(second) != api.OK {
					t.Fatalf("Turn(%d), Turn(%d) in %v are refused", first, second, s)
				}
				mustBe(t, "a block that was turned twice", b, s, l)
			}
		}
	}
	l := mixed(most, 33)
	for _, s := range []api.Shape{shapeOf(10, 10), shapeOf(0, 20), shapeOf(14, 6)} {
		b := must(t, s, l)
		b.Turn(3)
		b.Turn(math.MaxInt)
		mustBe(t, "a block that was turned twice", b, s, l)
	}
}

// P12.5: what is laid is a part; a part that is laid where it was changes nothing.
func TestWhatIsLaidIsAPart(t *testing.T) {
	for _, s := range shapesUpTo(5) {
		l := mixed(s.Rows*s.Cols, 34)
		for _, tile := range tilesOf(s) {
			if !lies(s, tile) {
				continue
			}
			b := must(t, s, l)
			p, _ := b.Part(tile)
			if e := b.Lay(tile.Row, tile.Col, p); e != api.OK {
				t.Fatalf("Lay of %v in %v: %d", tile, s, e)
			}
			mustBe(t, "a part that was laid where it was", b, s, l)
			over := mixed(tile.Rows*tile.Cols, 35)
			b.Lay(tile.Row, tile.Col, must(t, tile.Shape, over))
			p, e := b.Part(tile)
			if e != api.OK {
				t.Fatalf("Part(%v) in %v: %d", tile, s, e)
			}
			mustBe(t, "a part that was laid", p, tile.Shape, over)
		}
	}
}

// P12.3 and P12.4: a block cut in its rows is what they are stacked to.
func TestStackOfParts(t *testing.T) {
	for _, s := range shapesUpTo(8) {
		l := mixed(s.Rows*s.Cols, 36)
		b := must(t, s, l)
		tiles, _ := shape.Tiles(s, 1, s.Cols)
		var parts []*block.Block
		for _, tile := range tiles {
			p, e := b.Part(tile)
			if e != api.OK {
				t.Fatalf("Part(%v) in %v: %d", tile, s, e)
			}
			parts = append(parts, p)
		}
		all, e := block.Stack(parts...)
		if e != api.OK {
			t.Fatalf("Stack of the rows of %v: %d", s, e)
		}
		mustBe(t, "Stack of parts", all, s, l)
	}
}

// R8: the same calls to like blocks answer the same, whatever was asked, or refused, of other ones in between.
func TestBlocksAreApart(t *testing.T) {
	for _, s := range shapesUpTo(5) {
		l := mixed(s.Rows*s.Cols, 37)
		a, b := must(t, s, l), must(t, s, l)
		last := api.Tile{Shape: shapeOf(0, 0), Row: s.Rows - 1, Col: s.Cols - 1}
		for _, x := range []*block.Block{a, b} {
			x.Swap(last, 0, 0)
			x.Turn(2)
			x.Put(0, 0, 5)
			x.Turn(0)
			block.New(s).Turn(1)
		}
		mustBe(t, "a like block", b, a.Shape(), a.Words())
		mustBe(t, "New behind other blocks", block.New(s), s, make([]uint64, s.Rows*s.Cols))
	}
}

// P1: calls end and none panics, whatever numbers come together.
func TestAnyArgument(t *testing.T) {
	numbers := slices.Concat(badSides, farPlaces, []int{1, 2, 4, 8})
	for _, s := range []api.Shape{shapeOf(0, 0), shapeOf(1, 2), shapeOf(2, 0)} {
		b := must(t, s, mixed(s.Rows*s.Cols, 38))
		p := must(t, shapeOf(1, 1), mixed(4, 39))
		for _, x := range numbers {
			b.Turn(x)
			for _, y := range numbers {
				b.Get(x, y)
				b.Put(x, y, top)
				b.Lay(x, y, p)
				b.Lay(x, y, b)
				b.Lay(x, y, nil)
				block.Of(api.Shape{Rows: x, Cols: y}, mixed(8, 40))
				for _, z := range numbers {
					b.Part(api.Tile{Shape: api.Shape{Rows: x, Cols: y}, Row: z, Col: x})
					b.Part(api.Tile{Shape: api.Shape{Rows: 1, Cols: y}, Row: z, Col: x})
					b.Swap(api.Tile{Shape: api.Shape{Rows: x, Cols: y}, Row: z, Col: 0}, 0, z)
					b.Swap(api.Tile{Shape: shapeOf(1, 1), Row: x, Col: y}, z, x)
				}
			}
		}
		block.Stack(b, p, nil, b)
		block.Stack(b, p, b)
	}
}

// The rules that the tests go by are the document's own: they are held against what is written out by hand.
func TestTheTestsOwnRules(t *testing.T) {
	s := shapeOf(1, 2)
	l := []uint64{1, 2, 3, 4, 5, 6, 7, 8}
	tile := api.Tile{Shape: shapeOf(1, 0), Col: 2}
	if !slices.Equal(turnedOf(l, s), []uint64{1, 5, 2, 6, 3, 7, 4, 8}) || !slices.Equal(partOf(l, s, tile), []uint64{3, 7}) || !slices.Equal(laidOf(l, s, tile, []uint64{9, 0}), []uint64{1, 2, 9, 4, 5, 6, 0, 8}) {
		t.Error("the rules of words tell something else")
	}
	for _, c := range []struct {
		n, from, count int
		want           bool
	}{{4, 0, 4, true}, {4, 1, 4, false}, {4, 3, 1, true}, {4, 4, 1, false}, {4, -1, 1, false}, {4, -1, 4, false}, {4, 0, 3, false}, {4, 0, 0, false}, {4, 0, -1, false}, {4, math.MaxInt, 1, false}, {4, math.MaxInt, 8, false}, {4, math.MinInt, math.MinInt, false}, {4, 0, 8, false}} {
		if liesAlong(c.n, c.from, c.count) != c.want {
			t.Errorf("liesAlong(%d, %d, %d) isn't %v", c.n, c.from, c.count, c.want)
		}
	}
	two := api.Tile{Shape: shapeOf(1, 1)}
	for _, c := range []struct {
		row, col int
		want     bool
	}{{0, 0, true}, {1, 1, true}, {0, 2, false}, {2, 0, false}, {2, 2, false}, {1, 0, true}, {2, 1, false}} {
		if share(two, api.Tile{Shape: two.Shape, Row: c.row, Col: c.col}) != c.want {
			t.Errorf("share at %d, %d isn't %v", c.row, c.col, c.want)
		}
	}
	if !slices.Equal(l, []uint64{1, 2, 3, 4, 5, 6, 7, 8}) || len(shapesUpTo(3)) != 10 || len(shapesOf(20)) != 21 {
		t.Error("the rules of shapes tell something else")
	}
}
