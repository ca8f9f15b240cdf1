package rev

import (
	"fmt"
	"math"
	"slices"
	"strings"
	"testing"

	"abacist/api"
)

// badDigits are how many bits no digit has.
var badDigits = []int{0, -1, -2, -8, 9, 10, 16, 32, 64, 1 << 32, math.MaxInt, math.MinInt, math.MinInt + 1}

// badExponents are how many bits no place has.
var badExponents = []int{-1, -2, -8, -32, -64, 33, 34, 40, 63, 64, 65, 1 << 32, math.MaxInt, math.MinInt, math.MinInt + 1}

// turnedOf is a place turned about as the document says it, by digits that are written out one by one and read from the other end.
func turnedOf(i, k, r int) int {
	written := fmt.Sprintf("%0*b", k, i)
	if k == 0 {
		written = ""
	}
	turned := 0
	for at := k - r; at >= 0; at -= r {
		for _, bit := range written[at : at+r] {
			turned = 2*turned + int(bit-'0')
		}
	}
	return turned
}

// somePlaces are places of k bits: the first and the last ones, single bits, and some that a fixed rule mixes.
func somePlaces(k int) []int {
	n := 1 << k
	l := []int{0, n - 1, n / 2, n / 3, 1 % n, 2 % n, max(n-2, 0)}
	for j := range k {
		l = append(l, 1<<j, n-1-1<<j)
	}
	w := uint64(k)
	for range 20 {
		w = w*6364136223846793005 + 1442695040888963407
		l = append(l, int(w>>32)%n)
	}
	return l
}

// aRow is n words that are unlike, some of them from P on.
func aRow(n int) []uint64 {
	l := make([]uint64, n)
	for i := range l {
		l[i] = uint64(i)*0x9e3779b97f4a7c15 + 7
	}
	return l
}

// rowTurnedOf is a row turned about as the document says it: the word at i stands at i turned about.
func rowTurnedOf(l []uint64, k, r int) []uint64 {
	turned := make([]uint64, len(l))
	for i := range l {
		turned[turnedOf(i, k, r)] = l[i]
	}
	return turned
}

func mustBits(t *testing.T, i, k, want int) {
	t.Helper()
	if got, e := Bits(i, k); got != want || e != api.OK {
		t.Errorf("Bits(%d, %d) = %d, %d, want %d", i, k, got, e, want)
	}
}

func mustDigits(t *testing.T, i, k, r, want int) {
	t.Helper()
	if got, e := Digits(i, k, r); got != want || e != api.OK {
		t.Errorf("Digits(%d, %d, %d) = %d, %d, want %d", i, k, r, got, e, want)
	}
}

// mustNotBits and mustNotDigits hold 0 beside the error (R3).
func mustNotBits(t *testing.T, i, k int) {
	t.Helper()
	if got, e := Bits(i, k); got != 0 || e != api.ErrArg {
		t.Errorf("Bits(%d, %d) = %d, %d, want 0 and ErrArg", i, k, got, e)
	}
}

func mustNotDigits(t *testing.T, i, k, r int) {
	t.Helper()
	if got, e := Digits(i, k, r); got != 0 || e != api.ErrArg {
		t.Errorf("Digits(%d, %d, %d) = %d, %d, want 0 and ErrArg", i, k, r, got, e)
	}
}

func mustTurn(t *testing.T, l, want []uint64) {
	t.Helper()
	if got, e := Turn(l); !slices.Equal(got, want) || e != api.OK {
		t.Errorf("Turn(%v) = %v, %d, want %v", l, got, e, want)
	}
}

func mustTurnBy(t *testing.T, l []uint64, r int, want []uint64) {
	t.Helper()
	if got, e := TurnBy(l, r); !slices.Equal(got, want) || e != api.OK {
		t.Errorf("TurnBy(%v, %d) = %v, %d, want %v", l, r, got, e, want)
	}
}

// mustNotTurnBy holds a row without words beside the error (R3).
func mustNotTurnBy(t *testing.T, n, r int, want api.Errno) {
	t.Helper()
	if got, e := TurnBy(aRow(n), r); len(got) != 0 || e != want {
		t.Errorf("TurnBy of %d words, %d: %d words, %d, want %d", n, r, len(got), e, want)
	}
}

func mustWeave(t *testing.T, even, odd, want []uint64) {
	t.Helper()
	if got, e := Weave(even, odd); !slices.Equal(got, want) || e != api.OK {
		t.Errorf("Weave(%v, %v) = %v, %d, want %v", even, odd, got, e, want)
	}
}

// P5.1: Bits, of every place of few bits, and of some of many.
func TestBitsOfPlaces(t *testing.T) {
	for k := range 11 {
		for i := range 1 << k {
			mustBits(t, i, k, turnedOf(i, k, 1))
		}
	}
	for k := range 33 {
		for _, i := range somePlaces(k) {
			mustBits(t, i, k, turnedOf(i, k, 1))
		}
	}
}

// P5.1: bit j is the place's bit k - 1 - j.
func TestBitsBitByBit(t *testing.T) {
	for k := range 33 {
		for _, i := range somePlaces(k) {
			turned, _ := Bits(i, k)
			for j := range k {
				if turned>>j&1 != i>>(k-1-j)&1 {
					t.Fatalf("Bits(%d, %d) = %d: bit %d is another one", i, k, turned, j)
				}
			}
			if turned>>k != 0 {
				t.Fatalf("Bits(%d, %d) = %d: it has bits beyond", i, k, turned)
			}
		}
	}
}

func TestBitsAtEdges(t *testing.T) {
	for _, c := range []struct{ i, k, want int }{
		{1, 3, 4},
		{0, 0, 0},
		{0, 1, 0},
		{1, 1, 1},
		{1, 2, 2},
		{2, 2, 1},
		{3, 3, 6},
		{6, 4, 6},
		{7, 3, 7},
		{1, 31, 1 << 30},
		{0, 32, 0},
		{1, 32, 1 << 31},
		{1 << 31, 32, 1},
		{1<<32 - 1, 32, 1<<32 - 1},
		{1<<32 - 2, 32, 1<<31 - 1},
		{0x12345678, 32, 0x1e6a2c48},
	} {
		mustBits(t, c.i, c.k, c.want)
	}
}

// P5.1: exponents and places that are outside; among them places whose low bits would be inside.
func TestBitsOutside(t *testing.T) {
	for _, k := range badExponents {
		for _, i := range []int{0, 1, -1, math.MaxInt, math.MinInt} {
			mustNotBits(t, i, k)
		}
	}
	for k := range 33 {
		for _, i := range []int{1 << k, 1<<k + 1, 1 << 33, 1 << 62, 1<<32 | 1<<k, math.MaxInt, -1, -2, -1 << k, -1 << 62, math.MinInt, math.MinInt + 1} {
			mustNotBits(t, i, k)
		}
	}
}

// P5.1: Digits, of every place of few bits, and of some of many, by digits of each size.
func TestDigitsOfPlaces(t *testing.T) {
	for r := 1; r <= 8; r++ {
		for k := 0; k <= 32; k += r {
			for _, i := range somePlaces(k) {
				mustDigits(t, i, k, r, turnedOf(i, k, r))
			}
			for i := range 1 << min(k, 10) {
				mustDigits(t, i, k, r, turnedOf(i, k, r))
			}
		}
	}
}

// P5.1: digit j is the place's digit k/r - 1 - j.
func TestDigitsDigitByDigit(t *testing.T) {
	for r := 1; r <= 8; r++ {
		for k := 0; k <= 32; k += r {
			for _, i := range somePlaces(k) {
				turned, _ := Digits(i, k, r)
				for j := range k / r {
					if (turned>>(r*j))%(1<<r) != (i>>(r*(k/r-1-j)))%(1<<r) {
						t.Fatalf("Digits(%d, %d, %d) = %d: digit %d is another one", i, k, r, turned, j)
					}
				}
			}
		}
	}
}

func TestDigitsAtEdges(t *testing.T) {
	for _, c := range []struct{ i, k, r, want int }{
		{1, 3, 1, 4},
		{0, 0, 1, 0},
		{0, 0, 5, 0},
		{0, 0, 8, 0},
		{5, 3, 3, 5},
		{200, 8, 8, 200},
		{27, 6, 2, 57},
		{0x1234, 16, 4, 0x4321},
		{0x1234, 16, 8, 0x3412},
		{0o1234567, 21, 3, 0o7654321},
		{1, 32, 1, 1 << 31},
		{0x12345678, 32, 4, 0x87654321},
		{0x12345678, 32, 8, 0x78563412},
		{0xffffff00, 32, 8, 0x00ffffff},
		{1<<32 - 1, 32, 8, 1<<32 - 1},
		{1, 30, 5, 1 << 25},
		{63, 30, 6, 63 << 24},
		{127, 28, 7, 127 << 21},
	} {
		mustDigits(t, c.i, c.k, c.r, c.want)
	}
}

// P5.1: digits that are none, exponents that are no multiple, and what Bits refuses, too.
func TestDigitsOutside(t *testing.T) {
	for _, r := range badDigits {
		for _, k := range []int{0, 1, 8, 9, 10, 16, 18, 20, 32, -1, 64} {
			for _, i := range []int{0, 1, -1} {
				mustNotDigits(t, i, k, r)
			}
		}
	}
	for r := 1; r <= 8; r++ {
		for k := range 33 {
			if k%r != 0 {
				mustNotDigits(t, 0, k, r)
				mustNotDigits(t, 1, k, r)
				continue
			}
			for _, i := range []int{1 << k, 1<<k + 1, 1 << 33, 1 << 62, math.MaxInt, -1, -1 << k, math.MinInt} {
				mustNotDigits(t, i, k, r)
			}
		}
		for _, k := range append([]int{-r, -2 * r, -32 * r, 40 / r * r, 840}, badExponents...) {
			if k < 0 || k > 32 {
				mustNotDigits(t, 0, k, r)
			}
		}
	}
}

// P5.2: Turn and TurnBy, of rows of each length.
func TestTurnOfRows(t *testing.T) {
	for k := range 13 {
		l := aRow(1 << k)
		mustTurn(t, l, rowTurnedOf(l, k, 1))
		for r := 1; r <= 8; r++ {
			if k%r == 0 {
				mustTurnBy(t, l, r, rowTurnedOf(l, k, r))
			}
		}
	}
}

func TestTurnAtEdges(t *testing.T) {
	mustTurn(t, []uint64{9}, []uint64{9})
	mustTurn(t, []uint64{api.P, math.MaxUint64}, []uint64{api.P, math.MaxUint64})
	mustTurn(t, []uint64{10, 11, 12, 13}, []uint64{10, 12, 11, 13})
	mustTurn(t, []uint64{0, 1, 2, 3, 4, 5, 6, 7}, []uint64{0, 4, 2, 6, 1, 5, 3, 7})
	mustTurnBy(t, []uint64{10, 11, 12, 13}, 1, []uint64{10, 12, 11, 13})
	mustTurnBy(t, []uint64{10, 11, 12, 13}, 2, []uint64{10, 11, 12, 13})
	mustTurnBy(t, []uint64{0, 1, 2, 3, 4, 5, 6, 7, 8, 9, 10, 11, 12, 13, 14, 15}, 2, []uint64{0, 4, 8, 12, 1, 5, 9, 13, 2, 6, 10, 14, 3, 7, 11, 15})
	for r := 1; r <= 8; r++ { // a row of one word has the exponent 0, which each r goes into
		mustTurnBy(t, []uint64{math.MaxUint64}, r, []uint64{math.MaxUint64})
	}
}

// P5.2: by digits of eight bits a row of 2^8 words stays, and one of 2^16 is turned about by its bytes.
func TestTurnByTheGreatestDigit(t *testing.T) {
	mustTurnBy(t, aRow(1<<8), 8, aRow(1<<8))
	l := aRow(1 << 16)
	got, e := TurnBy(l, 8)
	if len(got) != len(l) || e != api.OK {
		t.Fatalf("TurnBy of 2^16 words, 8: %d words, %d", len(got), e)
	}
	for i := range l {
		if got[i%256*256+i/256] != l[i] {
			t.Fatalf("TurnBy of 2^16 words, 8: the word at %d stands elsewhere", i)
		}
	}
}

// P5.2: the word at i stands at i turned about, as Bits and Digits tell it.
func TestTurnGoesByBitsAndDigits(t *testing.T) {
	l := aRow(1 << 12)
	turned, _ := Turn(l)
	for i, w := range l {
		if at, e := Bits(i, 12); e != api.OK || turned[at] != w {
			t.Fatalf("Turn: the word at %d isn't at Bits(%d, 12) = %d", i, i, at)
		}
	}
	for _, r := range []int{1, 2, 3, 4, 6} {
		turned, _ := TurnBy(l, r)
		for i, w := range l {
			if at, e := Digits(i, 12, r); e != api.OK || turned[at] != w {
				t.Fatalf("TurnBy(_, %d): the word at %d isn't at Digits(%d, 12, %d) = %d", r, i, i, r, at)
			}
		}
	}
}

// P5.2 and R2: lengths that are no power of two are ErrLen, ahead of what r is.
func TestTurnOfOtherLengths(t *testing.T) {
	for _, n := range []int{0, 3, 5, 6, 7, 9, 10, 12, 15, 17, 24, 100, 255, 257, 1000, 1023, 1025, 1<<16 - 1, 1<<16 + 1, 3 << 15} {
		if got, e := Turn(aRow(n)); len(got) != 0 || e != api.ErrLen {
			t.Errorf("Turn of %d words: %d words, %d", n, len(got), e)
		}
		for r := -1; r <= 10; r++ {
			mustNotTurnBy(t, n, r, api.ErrLen)
		}
		for _, r := range badDigits {
			mustNotTurnBy(t, n, r, api.ErrLen)
		}
	}
	if got, e := Turn(nil); len(got) != 0 || e != api.ErrLen {
		t.Errorf("Turn(nil) = %v, %d", got, e)
	}
	if got, e := TurnBy(nil, 0); len(got) != 0 || e != api.ErrLen {
		t.Errorf("TurnBy(nil, 0) = %v, %d", got, e)
	}
}

// P5.2: digits that are none, and exponents that are no multiple.
func TestTurnByOtherDigits(t *testing.T) {
	for k := range 13 {
		for _, r := range badDigits {
			mustNotTurnBy(t, 1<<k, r, api.ErrArg)
		}
		for r := 1; r <= 8; r++ {
			if k%r != 0 {
				mustNotTurnBy(t, 1<<k, r, api.ErrArg)
			}
		}
	}
	mustNotTurnBy(t, 1<<9, 9, api.ErrArg)
	mustNotTurnBy(t, 1<<16, 16, api.ErrArg)
}

// P5.3: Even.
func TestEvenOfRows(t *testing.T) {
	for n := range 70 {
		l := aRow(n)
		even, odd := Even(l)
		if len(even) != (n+1)/2 || len(odd) != n/2 {
			t.Fatalf("Even of %d words: %d and %d", n, len(even), len(odd))
		}
		for i := range even {
			if even[i] != l[2*i] {
				t.Errorf("Even of %d words: %d is even at %d", n, even[i], i)
			}
		}
		for i := range odd {
			if odd[i] != l[2*i+1] {
				t.Errorf("Even of %d words: %d is odd at %d", n, odd[i], i)
			}
		}
	}
}

func TestEvenAtEdges(t *testing.T) {
	for _, c := range []struct{ l, even, odd []uint64 }{
		{nil, nil, nil},
		{[]uint64{}, nil, nil},
		{[]uint64{5}, []uint64{5}, nil},
		{[]uint64{5, 6}, []uint64{5}, []uint64{6}},
		{[]uint64{5, 6, math.MaxUint64}, []uint64{5, math.MaxUint64}, []uint64{6}},
		{[]uint64{1, 1, 2, 2, 3, 4}, []uint64{1, 2, 3}, []uint64{1, 2, 4}},
	} {
		if even, odd := Even(c.l); !slices.Equal(even, c.even) || !slices.Equal(odd, c.odd) {
			t.Errorf("Even(%v) = %v, %v, want %v, %v", c.l, even, odd, c.even, c.odd)
		}
	}
}

// P5.3: Weave, of every two lengths: the row, or ErrOdd with none (R3).
func TestWeaveOfRows(t *testing.T) {
	all := aRow(80)
	for n := range 20 {
		for m := range 20 {
			even, odd := all[:n], all[40:40+m]
			got, e := Weave(even, odd)
			if n != m && n != m+1 {
				if len(got) != 0 || e != api.ErrOdd {
					t.Errorf("Weave of %d and %d words: %d words, %d", n, m, len(got), e)
				}
				continue
			}
			if len(got) != n+m || e != api.OK {
				t.Fatalf("Weave of %d and %d words: %d words, %d", n, m, len(got), e)
			}
			for i, w := range got {
				if w != [][]uint64{even, odd}[i%2][i/2] {
					t.Errorf("Weave of %d and %d words has %d at %d", n, m, w, i)
				}
			}
		}
	}
}

func TestWeaveAtEdges(t *testing.T) {
	mustWeave(t, nil, nil, nil)
	mustWeave(t, []uint64{}, nil, nil)
	mustWeave(t, []uint64{5}, nil, []uint64{5})
	mustWeave(t, []uint64{5}, []uint64{6}, []uint64{5, 6})
	mustWeave(t, []uint64{5, math.MaxUint64}, []uint64{6}, []uint64{5, 6, math.MaxUint64})
	for _, c := range []struct{ n, m int }{{0, 1}, {2, 0}, {1, 2}, {3, 1}, {100, 98}, {99, 100}} {
		if got, e := Weave(aRow(c.n), aRow(c.m)); len(got) != 0 || e != api.ErrOdd {
			t.Errorf("Weave of %d and %d words: %d words, %d", c.n, c.m, len(got), e)
		}
	}
}

// P5.3: what is parted is woven to what it was, and what is woven is parted so.
func TestEvenAndWeaveGoBack(t *testing.T) {
	for n := range 70 {
		l := aRow(n)
		even, odd := Even(l)
		mustWeave(t, even, odd, l)
		woven, _ := Weave(l[:(n+1)/2], l[(n+1)/2:])
		if even, odd := Even(woven); !slices.Equal(even, l[:(n+1)/2]) || !slices.Equal(odd, l[(n+1)/2:]) {
			t.Errorf("Even of what was woven of %d words = %v, %v", n, even, odd)
		}
	}
}

// P5.4: a place turned about twice is the same.
func TestPlacesTurnedTwice(t *testing.T) {
	for k := range 33 {
		for _, i := range somePlaces(k) {
			turned, _ := Bits(i, k)
			mustBits(t, turned, k, i)
			for r := 1; r <= 8; r++ {
				if k%r == 0 {
					turned, _ := Digits(i, k, r)
					mustDigits(t, turned, k, r, i)
				}
			}
		}
	}
}

// P5.4: a row turned about twice is the same.
func TestRowsTurnedTwice(t *testing.T) {
	for k := range 17 {
		l := aRow(1 << k)
		turned, _ := Turn(l)
		mustTurn(t, turned, l)
		for r := 1; r <= 8; r++ {
			if k%r == 0 {
				turned, _ := TurnBy(l, r)
				mustTurnBy(t, turned, r, l)
			}
		}
	}
}

// P5.4: to turn about a row is to turn about its even and its odd part, one behind the other.
func TestRowsTurnedByParts(t *testing.T) {
	for k := 1; k < 17; k++ {
		l := aRow(1 << k)
		even, odd := Even(l)
		first, e := Turn(even)
		if e != api.OK {
			t.Fatalf("Turn of the even part of 2^%d words: %d", k, e)
		}
		second, e := Turn(odd)
		if e != api.OK {
			t.Fatalf("Turn of the odd part of 2^%d words: %d", k, e)
		}
		mustTurn(t, l, slices.Concat(first, second))
	}
}

// R4: what is handed in stays as it is, what lies behind its length is neither read nor written, and answers are new.
func TestRowsStayAsTheyAre(t *testing.T) {
	memory := aRow(32)
	before := slices.Clone(memory)
	calls := []func() []uint64{
		func() []uint64 { l, _ := Turn(memory[:16]); return l },
		func() []uint64 { l, _ := Turn(memory[:1]); return l },
		func() []uint64 { l, _ := Turn(memory[:15]); return l },
		func() []uint64 { l, _ := TurnBy(memory[:16], 2); return l },
		func() []uint64 { l, _ := TurnBy(memory[:16], 4); return l },
		func() []uint64 { l, _ := TurnBy(memory[:16], 3); return l },
		func() []uint64 { even, _ := Even(memory[:15]); return even },
		func() []uint64 { _, odd := Even(memory[:15]); return odd },
		func() []uint64 { even, _ := Even(memory[:1]); return even },
		func() []uint64 { l, _ := Weave(memory[:8], memory[8:15]); return l },
		func() []uint64 { l, _ := Weave(memory[:8], memory[:8]); return l },
		func() []uint64 { l, _ := Weave(memory[:1], nil); return l },
		func() []uint64 { l, _ := Weave(memory[:3], memory[8:15]); return l },
	}
	for i, call := range calls {
		first := call()
		kept := slices.Clone(first)
		clear(first[:cap(first)])
		if !slices.Equal(memory, before) {
			t.Fatalf("call %d: the rows became %v", i, memory)
		}
		if second := call(); !slices.Equal(second, kept) {
			t.Errorf("call %d = %v behind a write into its answer, want %v", i, second, kept)
		}
	}
}

// R4: an answer hangs on the words alone, not on what lies behind them.
func TestRowsWithRoomBehind(t *testing.T) {
	l := aRow(8)
	roomy := slices.Concat(l, []uint64{1, 2, 3, 4, 5, 6, 7, 8})[:8]
	want, _ := Turn(l)
	mustTurn(t, roomy, want)
	even, odd := Even(l)
	if e, o := Even(roomy); !slices.Equal(e, even) || !slices.Equal(o, odd) {
		t.Errorf("Even = %v, %v", e, o)
	}
}

// R4: neither part that Even answers is touched, if the other one is written over and grown.
func TestPartsShareNothing(t *testing.T) {
	for n := range 20 {
		even, odd := Even(aRow(n))
		keptOdd := slices.Clone(odd)
		clear(even[:cap(even)])
		if !slices.Equal(odd, keptOdd) {
			t.Errorf("Even of %d words: odd became %v", n, odd)
		}
		even, odd = Even(aRow(n))
		keptEven := slices.Clone(even)
		clear(odd[:cap(odd)])
		if !slices.Equal(even, keptEven) {
			t.Errorf("Even of %d words: even became %v", n, even)
		}
	}
}

// P1: calls end and none panics, whatever numbers and rows come together.
func TestAnyArgument(t *testing.T) {
	numbers := slices.Concat([]int{0, 1, 2, 3, 7, 8, 31, 32, 1<<32 - 1}, badDigits, badExponents)
	for _, i := range numbers {
		for _, k := range numbers {
			Bits(i, k)
			for _, r := range numbers {
				Digits(i, k, r)
			}
		}
	}
	for n := range 40 {
		l := aRow(n)
		Turn(l)
		Even(l)
		for m := range n {
			Weave(l[:m], l[m:])
		}
		for _, r := range numbers {
			TurnBy(l, r)
		}
	}
}

// The rule that the tests go by is the document's own: it is held against a place that is written out by hand.
func TestTurnedOfItself(t *testing.T) {
	if got := turnedOf(0b0010110, 7, 1); got != 0b0110100 {
		t.Errorf("turnedOf = %b", got)
	}
	if got := turnedOf(0b011011, 6, 2); got != 0b111001 {
		t.Errorf("turnedOf = %b", got)
	}
	if got := turnedOf(0, 0, 3); got != 0 {
		t.Errorf("turnedOf = %b", got)
	}
	if s := strings.Repeat("1", 32); fmt.Sprintf("%b", turnedOf(1<<32-1, 32, 8)) != s {
		t.Errorf("turnedOf of ones isn't %s", s)
	}
}
