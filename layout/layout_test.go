package layout_test

import (
	"math"
	"slices"
	"testing"

	"abacist/api"
	"abacist/layout"
)

// someSizes are all the sizes that a disk has.
var someSizes = []int{32, 64, 128, 256, 512, 1024, 2048, 4096}

// wrongSizes are sizes that no disk has; of the last ones, 2^64 more or less has one, or a part of one.
var wrongSizes = []int{0, 1, 2, 4, 8, 16, 24, 31, 33, 40, 48, 63, 65, 96, 127, 129, 160, 255, 257, 511, 513, 1000, 1023, 1025, 2047, 2049, 3072, 4095, 4097, 6144, 8191, 8192, 8193, 16384, 1 << 20, 1 << 31, 1 << 32, 1<<32 + 32, 1<<32 + 64, 1 << 61, 1 << 62, math.MaxInt - 1, math.MaxInt, -1, -8, -31, -32, -33, -64, -4096, -1 << 32, -1 << 62, math.MinInt + 32, math.MinInt + 1, math.MinInt}

// wrongExponents are exponents that no layout has; of the ones from 64 on, what is left modulo 64 or 2^32 is one.
var wrongExponents = []int{-1, -2, -32, -33, -64, -1 << 32, -1 << 62, math.MinInt, math.MinInt + 5, 33, 34, 63, 64, 65, 69, 128, 1 << 31, 1 << 32, 1<<32 + 5, 1 << 62, math.MaxInt - 1, math.MaxInt}

// ends are numbers of every kind: at the ends of ints, and around 0.
var ends = []int{math.MinInt, math.MinInt + 1, -1 << 62, -1 << 32, -4097, -9, -8, -2, -1, 0, 1, 2, 3, 4, 7, 8, 9, 12, 13, 16, 17, 25, 31, 32, 33, 64, 512, 4096, 4097, 1 << 20, 1 << 32, 1 << 61, 1<<61 + 8, 1 << 62, math.MaxInt - 1, math.MaxInt}

// dice are numbers that a fixed rule mixes.
type dice uint64

// below is a number from 0 to n - 1.
func (d *dice) below(n int) int {
	*d = *d*6364136223846793005 + 1442695040888963407
	return int(uint64(*d) >> 33 % uint64(n))
}

// place is where a word lies.
type place struct{ sector, at int }

// account is a layout that is written down sector by sector and word by word: whose each sector is, and where each word of the four extents lies.
type account struct {
	owners []int
	places [4][]place
}

// walk is the account of an exponent's layout, as the section 'Words' tells it.
func walk(k, per int) (a account) {
	a.owners = append(a.owners, -1)
	for range 8 {
		a.owners = append(a.owners, -2)
	}
	for ex := range 4 {
		at := per // as if a full sector lay ahead
		for range 1 << k {
			if at == per {
				a.owners, at = append(a.owners, ex), 0
			}
			a.places[ex] = append(a.places[ex], place{len(a.owners) - 1, at})
			at++
		}
	}
	return a
}

// extent is the extent of the account's number ex: its sectors are counted.
func (a account) extent(ex, words int) api.Extent {
	x := api.Extent{First: slices.Index(a.owners, ex), Words: words}
	for _, o := range a.owners {
		if o == ex {
			x.Sectors++
		}
	}
	return x
}

// layout is what the account is to be as a layout.
func (a account) layout(k, per int) api.Layout {
	x := api.Layout{K: k, Per: per, Journal: a.extent(-2, 8*per)}
	for ex := range x.Ex {
		x.Ex[ex] = a.extent(ex, len(a.places[ex]))
	}
	return x
}

// plainSectors is how many sectors 2^k words need: one, and twice as many for each doubling behind that.
func plainSectors(k, per int) int {
	n := 1
	for w := 1; w < 1<<k; w *= 2 {
		if w >= per {
			n *= 2
		}
	}
	return n
}

// plainNeed is how many sectors a layout of any exponent has.
func plainNeed(k, size int) int {
	n := plainSectors(k, size/8)
	return 1 + 8 + n + n + n + n
}

// plainLayout is the layout of any exponent.
func plainLayout(k, size int) api.Layout {
	n, w := plainSectors(k, size/8), 1<<k
	return api.Layout{K: k, Per: size / 8, Journal: api.Extent{First: 1, Sectors: 8, Words: size}, Ex: [4]api.Extent{
		{First: 9, Sectors: n, Words: w},
		{First: 9 + n, Sectors: n, Words: w},
		{First: 9 + n + n, Sectors: n, Words: w},
		{First: 9 + n + n + n, Sectors: n, Words: w},
	}}
}

// of is the layout of an exponent, however many sectors it needs.
func of(t *testing.T, k, size int) api.Layout {
	t.Helper()
	x, e := layout.Of(k, math.MaxInt, size)
	if e != api.OK {
		t.Fatalf("Of(%d, .., %d): error %d", k, size, e)
	}
	return x
}

// The model of these tests: the account that goes step by step, and the one of any exponent, are one; and so is the example.
func TestPlain(t *testing.T) {
	for _, size := range someSizes {
		for k := range 13 {
			a := walk(k, size/8)
			if len(a.owners) != plainNeed(k, size) || a.layout(k, size/8) != plainLayout(k, size) {
				t.Errorf("exponent %d, size %d: %v and %v", k, size, a.layout(k, size/8), plainLayout(k, size))
			}
		}
	}
	a := walk(3, 4)
	if !slices.Equal(a.owners, []int{-1, -2, -2, -2, -2, -2, -2, -2, -2, 0, 0, 1, 1, 2, 2, 3, 3}) {
		t.Errorf("the example: %d", a.owners)
	}
	if p := a.places[2]; !slices.Equal(p, []place{{13, 0}, {13, 1}, {13, 2}, {13, 3}, {14, 0}, {14, 1}, {14, 2}, {14, 3}}) {
		t.Errorf("the example's right shadow: %d", p)
	}
	if a := walk(0, 512); len(a.owners) != 13 || a.places[3][0] != (place{12, 0}) {
		t.Errorf("of one word each: %v", a)
	}
}

// P17.1: Need of each exponent and each size; of the smaller ones, sectors are counted one by one.
func TestNeed(t *testing.T) {
	for _, size := range someSizes {
		for k := range 33 {
			n, e := layout.Need(k, size)
			if n != plainNeed(k, size) || e != api.OK {
				t.Errorf("Need(%d, %d): %d, error %d, want %d", k, size, n, e, plainNeed(k, size))
			}
			if k < 13 && n != len(walk(k, size/8).owners) {
				t.Errorf("Need(%d, %d): %d, counted %d", k, size, n, len(walk(k, size/8).owners))
			}
		}
	}
}

// P17.1: Need by exact numbers: the example, extents of less than a sector, of just one, and of two, and the greatest ones.
func TestNeedKnown(t *testing.T) {
	for _, c := range []struct{ k, size, n int }{
		{3, 32, 17}, {0, 32, 13}, {1, 32, 13}, {2, 32, 13}, {4, 32, 25}, {32, 32, 4294967305},
		{5, 64, 25}, {3, 64, 13}, {4, 64, 17},
		{0, 4096, 13}, {9, 4096, 13}, {10, 4096, 17}, {11, 4096, 25}, {31, 4096, 16777225}, {32, 4096, 33554441},
	} {
		if n, e := layout.Need(c.k, c.size); n != c.n || e != api.OK {
			t.Errorf("Need(%d, %d): %d, error %d, want %d", c.k, c.size, n, e, c.n)
		}
	}
}

// P17.1, R1 and R3: Need of an exponent outside, of a size that no disk has, and of both.
func TestNeedRefused(t *testing.T) {
	refused := func(k, size int) {
		if n, e := layout.Need(k, size); n != 0 || e != api.ErrArg {
			t.Errorf("Need(%d, %d): %d, error %d", k, size, n, e)
		}
	}
	for _, k := range wrongExponents {
		for _, size := range slices.Concat(someSizes, wrongSizes) {
			refused(k, size)
		}
	}
	for k := range 33 {
		for _, size := range wrongSizes {
			refused(k, size)
		}
	}
	for size := range 1 << 14 {
		if !slices.Contains(someSizes, size) {
			refused(3, size)
		}
		refused(3, -size)
	}
}

// P17.1: Of is the layout that the account tells, on just as many sectors as it needs, on one more, and on any number more.
func TestOf(t *testing.T) {
	for _, size := range someSizes {
		for k := range 33 {
			want := plainLayout(k, size)
			if k < 13 {
				want = walk(k, size/8).layout(k, size/8)
			}
			need := plainNeed(k, size)
			for _, sectors := range []int{need, need + 1, 2 * need, 1 << 40, math.MaxInt - 1, math.MaxInt} {
				if x, e := layout.Of(k, sectors, size); x != want || e != api.OK {
					t.Fatalf("Of(%d, %d, %d): %v, error %d, want %v", k, sectors, size, x, e, want)
				}
			}
		}
	}
}

// P17.1: Of by exact numbers: the example, extents that don't fill a sector, and the greatest layout.
func TestOfKnown(t *testing.T) {
	for _, c := range []struct {
		k, sectors, size int
		x                api.Layout
	}{
		{3, 17, 32, api.Layout{K: 3, Per: 4, Journal: api.Extent{First: 1, Sectors: 8, Words: 32}, Ex: [4]api.Extent{{First: 9, Sectors: 2, Words: 8}, {First: 11, Sectors: 2, Words: 8}, {First: 13, Sectors: 2, Words: 8}, {First: 15, Sectors: 2, Words: 8}}}},
		{1, 13, 4096, api.Layout{K: 1, Per: 512, Journal: api.Extent{First: 1, Sectors: 8, Words: 4096}, Ex: [4]api.Extent{{First: 9, Sectors: 1, Words: 2}, {First: 10, Sectors: 1, Words: 2}, {First: 11, Sectors: 1, Words: 2}, {First: 12, Sectors: 1, Words: 2}}}},
		{32, 4294967305, 32, api.Layout{K: 32, Per: 4, Journal: api.Extent{First: 1, Sectors: 8, Words: 32}, Ex: [4]api.Extent{{First: 9, Sectors: 1 << 30, Words: 1 << 32}, {First: 1073741833, Sectors: 1 << 30, Words: 1 << 32}, {First: 2147483657, Sectors: 1 << 30, Words: 1 << 32}, {First: 3221225481, Sectors: 1 << 30, Words: 1 << 32}}}},
	} {
		if x, e := layout.Of(c.k, c.sectors, c.size); x != c.x || e != api.OK {
			t.Errorf("Of(%d, %d, %d): %v, error %d", c.k, c.sectors, c.size, x, e)
		}
	}
	x := of(t, 3, 32)
	if x.Ex[api.ExInput].First != 9 || x.Ex[api.ExLeft].First != 11 || x.Ex[api.ExRight].First != 13 || x.Ex[api.ExOutput].First != 15 {
		t.Errorf("the extents' order: %v", x.Ex)
	}
}

// P17.1 and R3: on fewer sectors than it needs, down to the least int, Of has no layout.
func TestOfNoSpace(t *testing.T) {
	for _, size := range someSizes {
		for k := range 33 {
			need := plainNeed(k, size)
			for _, sectors := range []int{need - 1, need - 4, need / 2, 12, 9, 1, 0, -1, -need, math.MinInt + 1, math.MinInt} {
				if x, e := layout.Of(k, sectors, size); x != (api.Layout{}) || e != api.ErrSpace {
					t.Errorf("Of(%d, %d, %d): %v, error %d", k, sectors, size, x, e)
				}
			}
		}
	}
}

// P17.1, R2 and R3: Of an exponent outside, or of a size that no disk has, ahead of how many sectors there are.
func TestOfRefused(t *testing.T) {
	refused := func(k, sectors, size int) {
		if x, e := layout.Of(k, sectors, size); x != (api.Layout{}) || e != api.ErrArg {
			t.Errorf("Of(%d, %d, %d): %v, error %d", k, sectors, size, x, e)
		}
	}
	for _, sectors := range []int{math.MaxInt, 1 << 40, 13, 12, 0, -1, math.MinInt} {
		for _, k := range wrongExponents {
			for _, size := range slices.Concat(someSizes, wrongSizes) {
				refused(k, sectors, size)
			}
		}
		for k := range 33 {
			for _, size := range wrongSizes {
				refused(k, sectors, size)
			}
		}
	}
}

// plainMost is the greatest exponent whose layout has all its sectors there.
func plainMost(sectors, size int) (most int, ok bool) {
	for k := range 33 {
		if plainNeed(k, size) <= sectors {
			most, ok = k, true
		}
	}
	return most, ok
}

// P17.1: Most of each number of sectors up to some thousand, of each size.
func TestMost(t *testing.T) {
	for _, size := range someSizes {
		for sectors := -20; sectors < 5000; sectors++ {
			want, there := plainMost(sectors, size)
			if k, ok := layout.Most(sectors, size); k != want || ok != there {
				t.Fatalf("Most(%d, %d): %d, %v, want %d, %v", sectors, size, k, ok, want, there)
			}
		}
	}
}

// P17.1: where the next exponent just fits and just doesn't; its layout is there, and the next one isn't.
func TestMostEdges(t *testing.T) {
	for _, size := range someSizes {
		for k := range 33 {
			need := plainNeed(k, size)
			for _, sectors := range []int{need - 1, need, need + 1} {
				want, there := plainMost(sectors, size)
				most, ok := layout.Most(sectors, size)
				if most != want || ok != there {
					t.Errorf("Most(%d, %d): %d, %v, want %d, %v", sectors, size, most, ok, want, there)
				}
				if !ok {
					continue
				}
				if _, e := layout.Of(most, sectors, size); e != api.OK {
					t.Errorf("Of(%d, %d, %d): error %d", most, sectors, size, e)
				}
				if _, e := layout.Of(most+1, sectors, size); e == api.OK {
					t.Errorf("Of(%d, %d, %d): it fits", most+1, sectors, size)
				}
			}
		}
	}
}

// P17.1: Most by exact numbers: on 13 sectors there is one each, which has room for all its words; on 12 there is no layout.
func TestMostKnown(t *testing.T) {
	for i, size := range someSizes {
		if k, ok := layout.Most(12, size); k != 0 || ok {
			t.Errorf("Most(12, %d): %d, %v", size, k, ok)
		}
		if k, ok := layout.Most(13, size); k != i+2 || !ok {
			t.Errorf("Most(13, %d): %d, %v", size, k, ok)
		}
	}
	for _, c := range []struct {
		sectors, size, k int
		ok               bool
	}{
		{25, 64, 5, true}, {24, 64, 4, true}, {17, 32, 3, true}, {16, 32, 2, true},
		{1 << 20, 32, 19, true}, {1 << 14, 4096, 20, true},
		{4294967305, 32, 32, true}, {4294967304, 32, 31, true}, {33554441, 4096, 32, true}, {33554440, 4096, 31, true},
		{math.MaxInt, 32, 32, true}, {math.MaxInt, 4096, 32, true},
		{0, 64, 0, false}, {-1, 64, 0, false}, {-13, 64, 0, false}, {math.MinInt, 4096, 0, false},
	} {
		if k, ok := layout.Most(c.sectors, c.size); k != c.k || ok != c.ok {
			t.Errorf("Most(%d, %d): %d, %v", c.sectors, c.size, k, ok)
		}
	}
}

// P17.1, R1 and R3: of a size that no disk has, no layout fits, however many sectors there are.
func TestMostOfNoSize(t *testing.T) {
	for _, size := range wrongSizes {
		for _, sectors := range ends {
			if k, ok := layout.Most(sectors, size); k != 0 || ok {
				t.Errorf("Most(%d, %d): %d, %v", sectors, size, k, ok)
			}
		}
	}
}

// P17.1: each layout is good, however many sectors it needs, whoever made it.
func TestGood(t *testing.T) {
	for _, size := range someSizes {
		for k := range 33 {
			if x := of(t, k, size); !layout.Good(x) {
				t.Errorf("exponent %d, size %d: %v isn't good", k, size, x)
			}
			if x := plainLayout(k, size); !layout.Good(x) {
				t.Errorf("exponent %d, size %d: %v isn't good", k, size, x)
			}
		}
	}
}

// numbers are all the numbers of a layout.
func numbers(x *api.Layout) []*int {
	l := []*int{&x.K, &x.Per, &x.Journal.First, &x.Journal.Sectors, &x.Journal.Words}
	for i := range x.Ex {
		l = append(l, &x.Ex[i].First, &x.Ex[i].Sectors, &x.Ex[i].Words)
	}
	return l
}

// P17.1 and R7: such a layout with any one number changed isn't one, were it by so much that its bytes wrap round.
func TestGoodChanged(t *testing.T) {
	for _, size := range someSizes {
		for k := range 33 {
			good := of(t, k, size)
			x := good
			for i, p := range numbers(&x) {
				old := *p
				for _, v := range []int{old - 1, old + 1, 2 * old, old / 2, -old, 0, 1, old + 4, old - 4, old + 1<<32, old + 1<<61, old - 1<<61, old + 1<<62, old ^ math.MinInt, math.MaxInt, math.MinInt} {
					if v == old {
						continue
					}
					*p = v
					if layout.Good(x) {
						t.Errorf("exponent %d, size %d, number %d: good with %d for %d", k, size, i, v, old)
					}
				}
				*p = old
			}
			if x != good || !layout.Good(x) {
				t.Fatalf("exponent %d, size %d: not what it was", k, size)
			}
		}
	}
}

// P17.1: others that aren't layouts: the zero Layout, one of an exponent or size outside, extents in another order, and parts of two layouts.
func TestNotGood(t *testing.T) {
	if layout.Good(api.Layout{}) {
		t.Error("the zero Layout is good")
	}
	for _, per := range []int{-4, 0, 1, 2, 3, 5, 6, 12, 1024, 1<<61 + 8, 1 << 61} {
		n := max(1, 8/max(1, per))
		x := api.Layout{K: 3, Per: per, Journal: api.Extent{First: 1, Sectors: 8, Words: 8 * per}}
		for i := range x.Ex {
			x.Ex[i] = api.Extent{First: 9 + i*n, Sectors: n, Words: 8}
		}
		if layout.Good(x) {
			t.Errorf("per %d: %v is good", per, x)
		}
	}
	far := api.Layout{K: 33, Per: 4, Journal: api.Extent{First: 1, Sectors: 8, Words: 32}}
	for i := range far.Ex {
		far.Ex[i] = api.Extent{First: 9 + i<<31, Sectors: 1 << 31, Words: 1 << 33}
	}
	if layout.Good(far) {
		t.Errorf("%v is good", far)
	}
	for _, size := range someSizes {
		x, y := of(t, 10, size), of(t, 11, size)
		for i := range x.Ex {
			z := x
			z.Ex[i] = y.Ex[i]
			if layout.Good(z) {
				t.Errorf("size %d: extent %d of another layout", size, i)
			}
			z = x
			z.Ex[i], z.Ex[(i+1)%4] = x.Ex[(i+1)%4], x.Ex[i]
			if layout.Good(z) {
				t.Errorf("size %d: extents %d and the next one in each other's place", size, i)
			}
		}
		z := x
		z.Ex = y.Ex
		if layout.Good(z) {
			t.Errorf("size %d: all extents of another layout", size)
		}
	}
}

// P17.2: Sector of each word of each extent, as the account tells it, and of the journal's words.
func TestSector(t *testing.T) {
	for _, size := range someSizes {
		per := size / 8
		for k := range 12 {
			x, a := of(t, k, size), walk(k, per)
			for ex, y := range x.Ex {
				for i, p := range a.places[ex] {
					if s, at, e := layout.Sector(y, per, i); s != p.sector || at != p.at || e != api.OK {
						t.Fatalf("exponent %d, size %d, extent %d, word %d: %d, %d, error %d, want %v", k, size, ex, i, s, at, e, p)
					}
				}
			}
		}
		x := of(t, 4, size)
		for i := range 8 * per {
			if s, at, e := layout.Sector(x.Journal, per, i); s != 1+i/per || at != i%per || e != api.OK {
				t.Errorf("size %d, the journal's word %d: %d, %d, error %d", size, i, s, at, e)
			}
		}
	}
}

// P17.2: Sector by exact numbers: words at the ends of an extent and of its sectors, also of the greatest layout.
func TestSectorKnown(t *testing.T) {
	five, great := of(t, 5, 64), of(t, 32, 4096)
	for n, c := range []struct {
		x                  api.Extent
		per, i, sector, at int
	}{
		{five.Ex[api.ExInput], 8, 0, 9, 0}, {five.Ex[api.ExInput], 8, 7, 9, 7}, {five.Ex[api.ExInput], 8, 8, 10, 0}, {five.Ex[api.ExInput], 8, 31, 12, 7},
		{five.Ex[api.ExLeft], 8, 19, 15, 3},
		{five.Ex[api.ExOutput], 8, 0, 21, 0}, {five.Ex[api.ExOutput], 8, 31, 24, 7},
		{great.Ex[api.ExInput], 512, 0, 9, 0}, {great.Ex[api.ExOutput], 512, 1<<32 - 1, 33554440, 511}, {great.Ex[api.ExRight], 512, 1 << 31, 20971529, 0},
		{api.Extent{First: 7, Sectors: 1, Words: 3}, 4, 2, 7, 2},
		{api.Extent{First: 0, Sectors: 1, Words: 1}, 1, 0, 0, 0},
	} {
		if s, at, e := layout.Sector(c.x, c.per, c.i); s != c.sector || at != c.at || e != api.OK {
			t.Errorf("%d: %d, %d, error %d", n, s, at, e)
		}
	}
}

// noSector looks that Sector has no such word.
func noSector(t *testing.T, x api.Extent, per, i int) {
	t.Helper()
	if s, at, e := layout.Sector(x, per, i); s != 0 || at != 0 || e != api.ErrRange {
		t.Errorf("Sector(%v, %d, %d): %d, %d, error %d", x, per, i, s, at, e)
	}
}

// P17.2, R1 and R3: words ahead of the first one and behind the last one, per below 1, and both.
func TestSectorRefused(t *testing.T) {
	for _, size := range someSizes {
		per := size / 8
		for _, k := range []int{0, 1, 2, 3, 9, 10, 31, 32} {
			for _, x := range of(t, k, size).Ex {
				for _, i := range []int{-1, -2, -per, -1 << 32, math.MinInt + 1, math.MinInt, x.Words, x.Words + 1, 2 * x.Words, x.Words + 1<<40, math.MaxInt - 1, math.MaxInt} {
					for _, p := range []int{per, 1, 0, -per} {
						noSector(t, x, p, i)
					}
				}
				for _, p := range []int{0, -1, -per, math.MinInt + 1, math.MinInt} {
					for _, i := range []int{0, 1, x.Words - 1} {
						noSector(t, x, p, i)
					}
				}
			}
		}
	}
	for _, words := range []int{0, -1, -8, math.MinInt} {
		for _, i := range ends {
			noSector(t, api.Extent{First: 9, Sectors: 8, Words: words}, 8, i)
		}
	}
}

// plainSector is where a word of any extent lies: sectors are filled, one behind the other.
func plainSector(x api.Extent, per, i int) (p place, ok bool) {
	if i < 0 || i >= x.Words || per < 1 {
		return place{}, false
	}
	p.sector = x.First
	for range i {
		if p.at++; p.at == per {
			p.sector, p.at = p.sector+1, 0
		}
	}
	if p.sector-x.First >= x.Sectors {
		return place{}, false
	}
	return p, true
}

// P17.2: extents and numbers of words that don't go together: another per than the layout's, fewer sectors than the words need, more of them, sectors below 0. Words whose sector x has are told, the others aren't.
func TestSectorOfAny(t *testing.T) {
	for _, first := range []int{-3, -1, 0, 5} {
		for sectors := -1; sectors < 6; sectors++ {
			for words := -1; words < 22; words++ {
				x := api.Extent{First: first, Sectors: sectors, Words: words}
				for per := -1; per < 24; per++ {
					for i := -1; i < 24; i++ {
						p, ok := plainSector(x, per, i)
						if !ok {
							noSector(t, x, per, i)
						} else if s, at, e := layout.Sector(x, per, i); s != p.sector || at != p.at || e != api.OK {
							t.Fatalf("Sector(%v, %d, %d): %d, %d, error %d, want %v", x, per, i, s, at, e, p)
						}
					}
				}
			}
		}
	}
}

// P17.2: of an extent that has two sectors for words that need four, words of the two are told, and the ones behind aren't.
func TestSectorTooFew(t *testing.T) {
	x := api.Extent{First: 9, Sectors: 2, Words: 32}
	if s, at, e := layout.Sector(x, 8, 15); s != 10 || at != 7 || e != api.OK {
		t.Errorf("%d, %d, error %d", s, at, e)
	}
	noSector(t, x, 8, 16)
	noSector(t, x, 8, 31)
	noSector(t, api.Extent{First: 9, Sectors: 0, Words: 32}, 8, 0)
	noSector(t, api.Extent{First: 9, Sectors: -1, Words: 32}, 8, 0)
	noSector(t, api.Extent{First: 9, Sectors: math.MinInt, Words: 32}, 8, 0)
}

// P17.2 and R7: numbers at the ends of ints; a sector that no int numbers is none.
func TestSectorFar(t *testing.T) {
	const most, least = math.MaxInt, math.MinInt
	for n, c := range []struct {
		x                  api.Extent
		per, i, sector, at int
	}{
		{api.Extent{First: 0, Sectors: most, Words: most}, 1, most - 1, most - 1, 0},
		{api.Extent{First: 1, Sectors: most, Words: most}, 1, most - 1, most, 0},
		{api.Extent{First: 0, Sectors: most, Words: most}, 2, most - 1, most / 2, 0},
		{api.Extent{First: 0, Sectors: 1, Words: most}, most, most - 1, 0, most - 1},
		{api.Extent{First: most, Sectors: 1, Words: 8}, 8, 7, most, 7},
		{api.Extent{First: most, Sectors: 2, Words: 16}, 8, 7, most, 7},
		{api.Extent{First: most - 1, Sectors: 2, Words: 16}, 8, 15, most, 7},
		{api.Extent{First: least, Sectors: 2, Words: 16}, 8, 15, least + 1, 7},
		{api.Extent{First: least, Sectors: most, Words: most}, 1, most - 1, -2, 0},
	} {
		if s, at, e := layout.Sector(c.x, c.per, c.i); s != c.sector || at != c.at || e != api.OK {
			t.Errorf("%d: %d, %d, error %d", n, s, at, e)
		}
	}
	noSector(t, api.Extent{First: most, Sectors: 2, Words: 16}, 8, 8)
	noSector(t, api.Extent{First: most - 1, Sectors: 3, Words: 24}, 8, 16)
	noSector(t, api.Extent{First: 2, Sectors: most, Words: most}, 1, most-1)
	noSector(t, api.Extent{First: most, Sectors: most, Words: most}, 1, most-1)
}

// noPart looks that Part has no such words.
func noPart(t *testing.T, x api.Extent, per, from, n int) {
	t.Helper()
	if a, b, e := layout.Part(x, per, from, n); a != 0 || b != 0 || e != api.ErrRange {
		t.Errorf("Part(%v, %d, %d, %d): %d, %d, error %d", x, per, from, n, a, b, e)
	}
}

// P17.2: Part of all numbers of words, from each place on, as the account tells their places; of fewer than one, and of more than there are, there is none.
func TestPart(t *testing.T) {
	for _, size := range someSizes[:3] {
		for k := range 6 {
			x, a := of(t, k, size), walk(k, size/8)
			for ex, y := range x.Ex {
				for from := range y.Words {
					noPart(t, y, size/8, from, 0)
					noPart(t, y, size/8, from, -1)
					for n := 1; n <= y.Words-from; n++ {
						l := a.places[ex][from : from+n]
						first, last, e := layout.Part(y, size/8, from, n)
						if first != l[0].sector || last != l[n-1].sector || e != api.OK {
							t.Fatalf("exponent %d, size %d, extent %d, %d from %d on: %d to %d, error %d", k, size, ex, n, from, first, last, e)
						}
					}
					noPart(t, y, size/8, from, y.Words-from+1)
					noPart(t, y, size/8, from, y.Words+1)
				}
				noPart(t, y, size/8, y.Words, 0)
				noPart(t, y, size/8, y.Words, 1)
				noPart(t, y, size/8, -1, 1)
				noPart(t, y, size/8, -1, 2)
			}
		}
	}
}

// P17.2: of all of an extent's words Part tells all its sectors; of one word, the sector that Sector tells.
func TestPartOfAllAndOne(t *testing.T) {
	d := dice(1)
	for _, size := range someSizes {
		per := size / 8
		for k := range 33 {
			for _, x := range of(t, k, size).Ex {
				if a, b, e := layout.Part(x, per, 0, x.Words); a != x.First || b != x.First+x.Sectors-1 || e != api.OK {
					t.Errorf("Part of all of %v: %d to %d, error %d", x, a, b, e)
				}
				for _, i := range []int{0, x.Words - 1, d.below(x.Words), d.below(x.Words)} {
					s, _, _ := layout.Sector(x, per, i)
					if a, b, e := layout.Part(x, per, i, 1); a != s || b != s || e != api.OK {
						t.Errorf("Part of word %d of %v: %d to %d, error %d", i, x, a, b, e)
					}
				}
			}
		}
	}
}

// P17.2: Part by exact numbers: words within a sector, a whole one, one more ahead, one more behind, and of the greatest layout.
func TestPartKnown(t *testing.T) {
	left, great := of(t, 5, 64).Ex[api.ExLeft], of(t, 32, 4096).Ex[api.ExOutput]
	for i, c := range []struct {
		x                         api.Extent
		per, from, n, first, last int
	}{
		{left, 8, 7, 10, 13, 15}, {left, 8, 0, 1, 13, 13}, {left, 8, 31, 1, 16, 16}, {left, 8, 0, 32, 13, 16},
		{left, 8, 8, 8, 14, 14}, {left, 8, 7, 9, 13, 14}, {left, 8, 8, 9, 14, 15}, {left, 8, 7, 2, 13, 14}, {left, 8, 9, 3, 14, 14}, {left, 8, 24, 8, 16, 16}, {left, 8, 1, 31, 13, 16},
		{great, 512, 0, 1 << 32, 25165833, 33554440}, {great, 512, 1<<32 - 1, 1, 33554440, 33554440}, {great, 512, 511, 2, 25165833, 25165834},
	} {
		if a, b, e := layout.Part(c.x, c.per, c.from, c.n); a != c.first || b != c.last || e != api.OK {
			t.Errorf("%d: %d to %d, error %d", i, a, b, e)
		}
	}
}

// P17.2, R1, R3 and R7: no words, fewer than none, words that aren't all there, where from and n together are beyond any int, too; and per below 1.
func TestPartRefused(t *testing.T) {
	for _, size := range someSizes {
		per := size / 8
		for _, k := range []int{0, 1, 3, 9, 32} {
			for _, x := range of(t, k, size).Ex {
				for _, n := range []int{0, -1, -2, -x.Words, math.MinInt + 1, math.MinInt} {
					for _, from := range []int{0, x.Words - 1, x.Words, -1, math.MaxInt, math.MinInt} {
						noPart(t, x, per, from, n)
					}
				}
				for _, from := range []int{-1, -x.Words, math.MinInt + 1, math.MinInt, x.Words, x.Words + 1, math.MaxInt - 1, math.MaxInt} {
					for _, n := range []int{1, 2, x.Words, 1 << 62, math.MaxInt - 1, math.MaxInt} {
						noPart(t, x, per, from, n)
					}
				}
				for _, n := range []int{x.Words + 1, 1 << 62, math.MaxInt - x.Words, math.MaxInt - 1, math.MaxInt} {
					noPart(t, x, per, 0, n)
					noPart(t, x, per, x.Words-1, n)
				}
				for _, p := range []int{0, -1, -per, math.MinInt} {
					noPart(t, x, p, 0, 1)
					noPart(t, x, p, 0, x.Words)
				}
			}
		}
	}
}

// P17.2: Part of extents and numbers of words that don't go together: both the first and the last word are there, with their sectors, or there is none.
func TestPartOfAny(t *testing.T) {
	for _, first := range []int{-2, 0, 5} {
		for sectors := -1; sectors < 5; sectors++ {
			for words := -1; words < 12; words++ {
				x := api.Extent{First: first, Sectors: sectors, Words: words}
				for per := -1; per < 14; per++ {
					for from := -1; from < 13; from++ {
						noPart(t, x, per, from, 0)
						for n := 1; n < 14; n++ {
							a, there := plainSector(x, per, from)
							b, ok := plainSector(x, per, from+n-1)
							if !there || !ok {
								noPart(t, x, per, from, n)
							} else if f, l, e := layout.Part(x, per, from, n); f != a.sector || l != b.sector || e != api.OK {
								t.Fatalf("Part(%v, %d, %d, %d): %d to %d, error %d", x, per, from, n, f, l, e)
							}
						}
					}
				}
			}
		}
	}
}

// P17.2: of an extent that has two sectors for words that need four, parts of the two are told, and one word more isn't.
func TestPartTooFew(t *testing.T) {
	x := api.Extent{First: 9, Sectors: 2, Words: 32}
	if a, b, e := layout.Part(x, 8, 3, 13); a != 9 || b != 10 || e != api.OK {
		t.Errorf("%d to %d, error %d", a, b, e)
	}
	noPart(t, x, 8, 3, 14)
	noPart(t, x, 8, 16, 1)
	noPart(t, x, 8, 0, 32)
}

// P17.2 and R7: parts of extents at the ends of ints.
func TestPartFar(t *testing.T) {
	const most, least = math.MaxInt, math.MinInt
	all := api.Extent{First: 0, Sectors: most, Words: most}
	for i, c := range []struct {
		x                         api.Extent
		per, from, n, first, last int
	}{
		{all, 1, 0, most, 0, most - 1},
		{all, 1, 1, most - 1, 1, most - 1},
		{all, 1, most - 1, 1, most - 1, most - 1},
		{all, 1, most - 2, 2, most - 2, most - 1},
		{all, most, 0, most, 0, 0},
		{all, 8, 8, most - 8, 1, most / 8},
		{api.Extent{First: 1, Sectors: most, Words: most}, 1, 0, most, 1, most},
		{api.Extent{First: most, Sectors: 1, Words: 8}, 8, 0, 8, most, most},
		{api.Extent{First: least, Sectors: most, Words: most}, 1, 0, most, least, -2},
	} {
		if a, b, e := layout.Part(c.x, c.per, c.from, c.n); a != c.first || b != c.last || e != api.OK {
			t.Errorf("%d: %d to %d, error %d", i, a, b, e)
		}
	}
	noPart(t, all, 1, 1, most)
	noPart(t, all, 1, 2, most)
	noPart(t, all, 1, most, 1)
	noPart(t, all, 1, most-1, 2)
	noPart(t, all, 1, most-1, most)
	noPart(t, api.Extent{First: 2, Sectors: most, Words: most}, 1, 0, most)
	noPart(t, api.Extent{First: most, Sectors: 2, Words: 16}, 8, 7, 2)
	for _, words := range []int{least, least + 1, -1, 0} {
		for _, from := range ends {
			for _, n := range ends {
				noPart(t, api.Extent{First: 9, Sectors: 8, Words: words}, 8, from, n)
			}
		}
	}
}

// P17.2: Owner of each sector of a layout, as the account tells it; of numbers behind them, and below 0, there is none.
func TestOwner(t *testing.T) {
	for _, size := range someSizes {
		for k := range 13 {
			x, a := of(t, k, size), walk(k, size/8)
			for s, want := range a.owners {
				if o := layout.Owner(x, s); o != want {
					t.Fatalf("exponent %d, size %d, sector %d: %d, want %d", k, size, s, o, want)
				}
			}
			end := len(a.owners)
			for _, s := range []int{end, end + 1, 2 * end, end + 1<<32, 1 << 62, math.MaxInt - 1, math.MaxInt, -1, -2, -9, -end, -1 << 32, -1 << 62, math.MinInt + 1, math.MinInt} {
				if o := layout.Owner(x, s); o != -3 {
					t.Errorf("exponent %d, size %d, sector %d: %d", k, size, s, o)
				}
			}
		}
	}
}

// P17.2: Owner of the first and the last sector of each of a layout's parts, of all exponents and sizes.
func TestOwnerEdges(t *testing.T) {
	for _, size := range someSizes {
		for k := range 33 {
			x, n := of(t, k, size), plainSectors(k, size/8)
			for _, c := range [][2]int{{-1, -3}, {0, -1}, {1, -2}, {8, -2}, {9, 0}, {8 + n, 0}, {9 + n, 1}, {8 + 2*n, 1}, {9 + 2*n, 2}, {8 + 3*n, 2}, {9 + 3*n, 3}, {8 + 4*n, 3}, {9 + 4*n, -3}} {
				if o := layout.Owner(x, c[0]); o != c[1] {
					t.Errorf("exponent %d, size %d, sector %d: %d, want %d", k, size, c[0], o, c[1])
				}
			}
		}
	}
	x := of(t, 0, 32)
	if layout.Owner(x, 9) != api.ExInput || layout.Owner(x, 10) != api.ExLeft || layout.Owner(x, 11) != api.ExRight || layout.Owner(x, 12) != api.ExOutput {
		t.Error("the extents' names")
	}
}

// P17.2, P1 and R7: of what isn't a layout, sector 0 is the superblock's, and the others are of the part that has them, by exact numbers.
func TestOwnerOfAny(t *testing.T) {
	const most, least = math.MaxInt, math.MinInt
	for _, s := range ends {
		want := -3
		if s == 0 {
			want = -1
		}
		if o := layout.Owner(api.Layout{}, s); o != want {
			t.Errorf("the zero Layout, sector %d: %d", s, o)
		}
		if o := layout.Owner(api.Layout{Journal: api.Extent{Sectors: -1}, Ex: [4]api.Extent{{First: -9, Sectors: -1}, {First: 1, Sectors: least}, {First: least, Sectors: -1}, {First: most, Sectors: 0}}}, s); o != want {
			t.Errorf("fewer sectors than none, sector %d: %d", s, o)
		}
	}
	x := api.Layout{Ex: [4]api.Extent{{First: most, Sectors: most}, {First: least, Sectors: 5}, {First: 5, Sectors: most}, {First: least, Sectors: most}}}
	for _, c := range [][2]int{{most, 0}, {least, 1}, {least + 4, 1}, {least + 5, 3}, {-2, 3}, {-1, -3}, {0, -1}, {1, -3}, {4, -3}, {5, 2}, {most - 1, 2}} {
		if o := layout.Owner(x, c[0]); o != c[1] {
			t.Errorf("far extents, sector %d: %d, want %d", c[0], o, c[1])
		}
	}
}

// P17.3: no sector is of two: each one that a layout needs is of just one of its parts, by their own numbers, and that one is told.
func TestOneOwner(t *testing.T) {
	for _, size := range someSizes {
		for k := range 13 {
			x := of(t, k, size)
			need, _ := layout.Need(k, size)
			owners := make([][]int, need)
			owners[0] = append(owners[0], -1)
			for i, y := range []api.Extent{x.Journal, x.Ex[0], x.Ex[1], x.Ex[2], x.Ex[3]} {
				for s := y.First; s < y.First+y.Sectors; s++ {
					owners[s] = append(owners[s], []int{-2, 0, 1, 2, 3}[i])
				}
			}
			for s, l := range owners {
				if len(l) != 1 || layout.Owner(x, s) != l[0] {
					t.Fatalf("exponent %d, size %d, sector %d is of %d, told %d", k, size, s, l, layout.Owner(x, s))
				}
			}
		}
	}
}

// P17.3: no two words, of one extent or of two, nor one of the journal, have the same place; each lies within a sector that is its extent's.
func TestOnePlace(t *testing.T) {
	for _, size := range someSizes {
		per := size / 8
		for k := range 11 {
			x := of(t, k, size)
			seen := map[place]int{}
			for i, y := range []api.Extent{x.Journal, x.Ex[0], x.Ex[1], x.Ex[2], x.Ex[3]} {
				owner := []int{-2, 0, 1, 2, 3}[i]
				for w := range y.Words {
					s, at, e := layout.Sector(y, per, w)
					if e != api.OK || at < 0 || at >= per || layout.Owner(x, s) != owner {
						t.Fatalf("exponent %d, size %d, of %d, word %d: %d, %d, error %d", k, size, owner, w, s, at, e)
					}
					if old, ok := seen[place{s, at}]; ok {
						t.Fatalf("exponent %d, size %d, sector %d, place %d: of %d and %d", k, size, s, at, old, owner)
					}
					seen[place{s, at}] = owner
				}
			}
			if len(seen) != 8*per+4<<k {
				t.Fatalf("exponent %d, size %d: %d places", k, size, len(seen))
			}
		}
	}
}

// P1: every call ends and none panics, whatever numbers come in; what is told with OK holds by itself.
func TestAnyArgument(t *testing.T) {
	for _, a := range ends {
		for _, b := range ends {
			layout.Need(a, b)
			layout.Most(a, b)
			for _, c := range ends {
				if x, e := layout.Of(a, b, c); (e == api.OK) != layout.Good(x) {
					t.Errorf("Of(%d, %d, %d): %v, error %d", a, b, c, x, e)
				}
			}
		}
	}
	d := dice(2)
	end := func() int { return ends[d.below(len(ends))] }
	for range 300000 {
		x := api.Extent{First: end(), Sectors: end(), Words: end()}
		per, i, n := end(), end(), end()
		if s, at, e := layout.Sector(x, per, i); e == api.OK && (s < x.First || uint64(s)-uint64(x.First) >= uint64(x.Sectors) || at < 0 || at >= per) {
			t.Fatalf("Sector(%v, %d, %d): %d, %d", x, per, i, s, at)
		}
		if a, b, e := layout.Part(x, per, i, n); e == api.OK && (a < x.First || b < a || uint64(b)-uint64(x.First) >= uint64(x.Sectors)) {
			t.Fatalf("Part(%v, %d, %d, %d): %d, %d", x, per, i, n, a, b)
		}
		y := api.Layout{K: end(), Per: per, Journal: x}
		for j := range y.Ex {
			y.Ex[j] = api.Extent{First: end(), Sectors: end(), Words: end()}
		}
		if layout.Good(y) {
			t.Fatalf("%v is good", y)
		}
		if o := layout.Owner(y, i); o < -3 || o > 3 {
			t.Fatalf("Owner(%v, %d): %d", y, i, o)
		}
	}
}

// R4 and R8: an answer may be written over, and the same questions have the same answers again; what is handed in stays as it is.
func TestSameAnswers(t *testing.T) {
	for _, size := range someSizes {
		x := of(t, 7, size)
		want := x
		for _, p := range numbers(&x) {
			*p = -7
		}
		if y := of(t, 7, size); y != want {
			t.Errorf("size %d: %v, at first %v", size, y, want)
		}
		y := want
		layout.Good(y)
		layout.Owner(y, 5)
		layout.Sector(y.Ex[1], size/8, 5)
		layout.Part(y.Ex[1], size/8, 5, 6)
		if y != want {
			t.Errorf("size %d: %v, handed in %v", size, y, want)
		}
	}
}

// R5: a refused call leaves nothing behind.
func TestRefusedLeavesNothing(t *testing.T) {
	before := of(t, 6, 64)
	layout.Need(33, 64)
	layout.Of(6, 1, 64)
	layout.Of(6, 1, 65)
	layout.Most(0, 0)
	layout.Sector(before.Ex[0], 0, 0)
	layout.Part(before.Ex[0], 8, 0, 0)
	if x := of(t, 6, 64); x != before || !layout.Good(before) {
		t.Errorf("%v, at first %v", x, before)
	}
}

// The chapter's example: k 3, sectors of 4 words: two sectors each: 17 sectors.
func TestExample(t *testing.T) {
	if n, e := layout.Need(3, 32); n != 17 || e != api.OK {
		t.Errorf("Need: %d, error %d", n, e)
	}
	x, e := layout.Of(3, 17, 32)
	if e != api.OK {
		t.Fatalf("Of: error %d", e)
	}
	for i, y := range x.Ex {
		if y.Sectors != 2 {
			t.Errorf("extent %d has %d sectors", i, y.Sectors)
		}
	}
	if _, e := layout.Of(3, 16, 32); e != api.ErrSpace {
		t.Errorf("on 16 sectors: error %d", e)
	}
}
