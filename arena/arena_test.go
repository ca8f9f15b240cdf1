package arena_test

import (
	"math"
	"math/big"
	"slices"
	"testing"

	"abacist/api"
	"abacist/arena"
)

const (
	top  = uint64(math.MaxUint64)
	most = 1 << 24 // an arena's greatest capacity
)

// badCapacities are those of which there is no arena.
var badCapacities = []int{0, -1, -2, -10, -most, -most - 1, -1 << 32, -1 << 62, math.MinInt + 1, math.MinInt, most + 1, most + 2, 2 * most, 1<<31 - 1, 1 << 31, 1 << 32, 1<<32 + 1, 1<<32 + 10, 1 << 62, math.MaxInt - 1, math.MaxInt}

// goodCapacities are some of which there is one, the least and the greatest among them.
var goodCapacities = []int{1, 2, 3, 4, 5, 7, 8, 10, 63, 64, 65, 1000, 1 << 16, 1<<20 - 1, most/2 + 1, most - 1, most}

// noTakes are takes of no word, which no arena has, whatever is used.
var noTakes = []int{0, -1, -2, -5, -10, -11, -most, -most - 1, -1 << 31, -1 << 32, -1 << 62, -1<<62 - 1, math.MinInt + 1, math.MinInt}

// farTakes are takes of more words than any arena has; with what is used some of them are beyond an int.
var farTakes = []int{most + 1, most + 2, 2 * most, 1 << 31, 1 << 32, 1<<32 + 1, 1 << 62, 1<<62 + 1, math.MaxInt - most, math.MaxInt - 10, math.MaxInt - 9, math.MaxInt - 1, math.MaxInt}

// counts is what an arena tells of itself.
type counts struct{ capacity, used, peak, free int }

// countsOf asks an arena.
func countsOf(a *arena.Arena) counts {
	return counts{a.Cap(), a.Used(), a.Peak(), a.Free()}
}

// must is an arena of a capacity of which there is one.
func must(t *testing.T, words int) *arena.Arena {
	t.Helper()
	a := arena.New(words)
	if a == nil {
		t.Fatalf("New(%d) is nil", words)
	}
	return a
}

// mustCount holds what an arena tells of itself against what is asked for: Used and Free are the capacity together.
func mustCount(t *testing.T, name string, a *arena.Arena, capacity, used, peak int) {
	t.Helper()
	if got, want := countsOf(a), (counts{capacity, used, peak, capacity - used}); got != want {
		t.Fatalf("%s: capacity, used, peak and free are %d, want %d", name, got, want)
	}
}

// mustTake is a buffer for which there is room: n noughts.
func mustTake(t *testing.T, a *arena.Arena, n int) *arena.Buffer {
	t.Helper()
	b, e := a.Take(n)
	if b == nil || e != api.OK {
		t.Fatalf("Take(%d) with %d free: %v, %d", n, a.Free(), b == nil, e)
	}
	mustHave(t, "a buffer that was just taken", b, make([]uint64, n))
	return b
}

// mustRefuse holds a take's error against the one that is asked for, with no buffer beside it (R3), and the arena against what it was ahead of it (R5).
func mustRefuse(t *testing.T, a *arena.Arena, n int, want api.Errno) {
	t.Helper()
	was := countsOf(a)
	b, e := a.Take(n)
	if b != nil || e != want {
		t.Fatalf("Take(%d) with %d free of %d: no buffer is %v, %d, want %d", n, was.free, was.capacity, b == nil, e, want)
	}
	if countsOf(a) != was {
		t.Fatalf("Take(%d), refused: %d, was %d", n, countsOf(a), was)
	}
}

// mustHave holds a buffer's words and length against words.
func mustHave(t *testing.T, name string, b *arena.Buffer, want []uint64) {
	t.Helper()
	if b.Len() != len(want) || len(b.Words()) != len(want) {
		t.Fatalf("%s: Len is %d, and there are %d words, want %d", name, b.Len(), len(b.Words()), len(want))
	}
	if !slices.Equal(b.Words(), want) {
		t.Fatalf("%s: other words than those that are to be in it", name)
	}
}

// mustBeBack holds buffers against having no words any more, nor any behind their end.
func mustBeBack(t *testing.T, name string, l ...*arena.Buffer) {
	t.Helper()
	for i, b := range l {
		if b.Len() != 0 || cap(b.Words()) != 0 {
			t.Fatalf("%s: buffer %d still has %d words, and %d by Len", name, i, cap(b.Words()), b.Len())
		}
	}
}

// mark writes words into a buffer that tell it from others, and answers them.
func mark(b *arena.Buffer, seed uint64) []uint64 {
	words := b.Words()
	for i := range words {
		words[i] = seed<<32 + uint64(i) + 1
	}
	return slices.Clone(words)
}

// dice are numbers that a fixed rule mixes.
type dice uint64

// below is a number from 0 to n - 1.
func (d *dice) below(n int) int {
	*d = *d*6364136223846793005 + 1442695040888963407
	return int(uint64(*d) >> 33 % uint64(n))
}

// held is a buffer, and the words that are to be in it: nil once it was given back.
type held struct {
	b    *arena.Buffer
	want []uint64
}

// book is an arena, and what the test itself keeps of it: its capacity, its peak, and all buffers that were ever taken from it.
type book struct {
	a              *arena.Arena
	capacity, peak int
	all            []*held
}

// open is a book of a new arena.
func open(t *testing.T, capacity int) *book {
	t.Helper()
	return &book{a: must(t, capacity), capacity: capacity}
}

// used is how many words the buffers that weren't given back have together.
func (k *book) used() int {
	sum := 0
	for _, h := range k.all {
		sum += len(h.want)
	}
	return sum
}

// answer is what Take(n) is to tell, by exact numbers.
func (k *book) answer(n int) api.Errno {
	if n < 1 {
		return api.ErrArg
	}
	then := new(big.Int).Add(big.NewInt(int64(k.used())), big.NewInt(int64(n)))
	if then.Cmp(big.NewInt(int64(k.capacity))) > 0 {
		return api.ErrArena
	}
	return api.OK
}

// take takes a buffer, or is refused, and writes the buffer full.
func (k *book) take(t *testing.T, n int) {
	t.Helper()
	if e := k.answer(n); e != api.OK {
		mustRefuse(t, k.a, n, e)
		return
	}
	b := mustTake(t, k.a, n)
	k.all = append(k.all, &held{b, mark(b, uint64(len(k.all)))})
	k.peak = max(k.peak, k.used())
}

// give gives buffers back, of which some may be nil, another arena's, or given back already.
func (k *book) give(l ...*arena.Buffer) {
	k.a.Give(l...)
	for _, h := range k.all {
		if slices.Contains(l, h.b) {
			h.want = nil
		}
	}
}

// reset gives all back.
func (k *book) reset() {
	k.a.Reset()
	for _, h := range k.all {
		h.want = nil
	}
	k.peak = 0
}

// check holds the arena and all its buffers against the book.
func (k *book) check(t *testing.T, name string) {
	t.Helper()
	mustCount(t, name, k.a, k.capacity, k.used(), k.peak)
	for _, h := range k.all {
		mustHave(t, name, h.b, h.want)
	}
}

// any is a buffer that was taken some time, and may be back, or nil.
func (k *book) any(d *dice) *arena.Buffer {
	i := d.below(len(k.all) + 1)
	if i == len(k.all) {
		return nil
	}
	return k.all[i].b
}

// P14.1: New is an arena in which nothing is used, and which has all its words to be taken, in one buffer, up to just 2^24.
func TestNew(t *testing.T) {
	for _, n := range goodCapacities {
		a := must(t, n)
		mustCount(t, "a new arena", a, n, 0, 0)
		mustRefuse(t, a, n+1, api.ErrArena)
		b := mustTake(t, a, n)
		mustCount(t, "an arena of which all is used", a, n, n, n)
		mustRefuse(t, a, 1, api.ErrArena)
		a.Give(b)
		mustCount(t, "an arena with all given back", a, n, 0, n)
	}
}

// P14.1: nil of capacities outside 1 to 2^24.
func TestNewOfNoCapacity(t *testing.T) {
	for _, n := range badCapacities {
		if a := arena.New(n); a != nil {
			t.Errorf("New(%d) isn't nil", n)
		}
	}
}

// P14.1: Take is a buffer of noughts as long as there is room, up to just what is free, however much is used; one more is ErrArena.
func TestTake(t *testing.T) {
	for capacity := 1; capacity <= 24; capacity++ {
		for first := 1; first <= capacity; first++ {
			for n := 1; n <= capacity+2; n++ {
				a := must(t, capacity)
				mustTake(t, a, first)
				mustCount(t, "an arena with one buffer", a, capacity, first, first)
				if first+n > capacity {
					mustRefuse(t, a, n, api.ErrArena)
					continue
				}
				mustTake(t, a, n)
				mustCount(t, "an arena with two buffers", a, capacity, first+n, first+n)
			}
		}
	}
}

// P14.1: buffers of one word each, until all is used; then there is room for none.
func TestTakeWordByWord(t *testing.T) {
	for _, capacity := range []int{1, 2, 10, 1000, 1 << 12} {
		k := open(t, capacity)
		for range capacity {
			b := mustTake(t, k.a, 1)
			k.all = append(k.all, &held{b, mark(b, uint64(len(k.all)))})
			k.peak++
			mustCount(t, "an arena word by word", k.a, capacity, len(k.all), len(k.all))
		}
		k.take(t, 1)
		k.check(t, "an arena of which all is used")
	}
}

// P14.1, the chapter's example: of a capacity of 10, Take 6, Take 5 is ErrArena; 4 are left.
func TestExample(t *testing.T) {
	a := must(t, 10)
	b := mustTake(t, a, 6)
	mustRefuse(t, a, 5, api.ErrArena)
	mustCount(t, "Take 6, Take 5", a, 10, 6, 6)
	mustTake(t, a, 4)
	mustCount(t, "Take 6, Take 5, Take 4", a, 10, 10, 10)
	a.Give(b)
	mustCount(t, "Give of the 6", a, 10, 4, 10)
	mustTake(t, a, 5)
	mustCount(t, "Take 5", a, 10, 9, 10)
}

// P14.1 and R2: a take of no word is ErrArg, also where nothing is free (where ErrArena would be told of more), down to the least int.
func TestTakeOfNoWord(t *testing.T) {
	for _, capacity := range []int{1, 2, 10, 1000, most} {
		for _, used := range []int{0, 1, capacity / 2, capacity - 1, capacity} {
			a := must(t, capacity)
			if used > 0 {
				mustTake(t, a, used)
			}
			for _, n := range noTakes {
				mustRefuse(t, a, n, api.ErrArg)
			}
			mustCount(t, "an arena behind takes of no word", a, capacity, used, used)
		}
	}
}

// P14.1 and R7: takes of far too many words are ErrArena, up to the greatest int, also where what would be used then is beyond an int.
func TestTakeOfFarTooManyWords(t *testing.T) {
	for _, capacity := range []int{1, 2, 10, 1000, most - 1, most} {
		for _, used := range []int{0, 1, capacity / 2, capacity - 1, capacity} {
			a := must(t, capacity)
			if used > 0 {
				mustTake(t, a, used)
			}
			for _, n := range append([]int{capacity - used + 1, capacity + 1}, farTakes...) {
				mustRefuse(t, a, n, api.ErrArena)
			}
			mustCount(t, "an arena behind takes of too many words", a, capacity, used, used)
		}
	}
}

// R5: a take that is refused leaves the buffers as they were, and what is free can be taken behind it.
func TestRefusedTakeLeavesAll(t *testing.T) {
	k := open(t, 20)
	k.take(t, 7)
	k.take(t, 8)
	k.give(k.all[0].b)
	for _, n := range slices.Concat(noTakes, farTakes, []int{13, 20, 21}) {
		k.take(t, n)
		k.check(t, "an arena behind a take that was refused")
	}
	k.take(t, 12)
	k.check(t, "an arena behind a take of what was free")
}

// P14.1: Give of nothing, of a list that is nil, and of nils gives nothing back.
func TestGiveOfNothing(t *testing.T) {
	for _, n := range []int{0, 3, 10} {
		k := open(t, 10)
		if n > 0 {
			k.take(t, n)
		}
		k.a.Give()
		k.a.Give([]*arena.Buffer(nil)...)
		k.a.Give([]*arena.Buffer{}...)
		k.a.Give(nil)
		k.a.Give(nil, nil, nil)
		k.check(t, "Give of nothing")
	}
}

// P14.1: Give of one buffer, in each order: that one has no words then, the others keep theirs.
func TestGiveOfOne(t *testing.T) {
	orders := [][]int{{0, 1, 2, 3}, {3, 2, 1, 0}, {1, 3, 0, 2}, {2, 0, 3, 1}}
	for _, order := range orders {
		k := open(t, 30)
		for n := 3; n <= 6; n++ {
			k.take(t, n)
		}
		for _, i := range order {
			k.give(k.all[i].b)
			mustBeBack(t, "Give of one", k.all[i].b)
			k.check(t, "Give of one")
		}
		mustCount(t, "Give one by one", k.a, 30, 0, 18)
	}
}

// P14.1: Give of many buffers in one call, all choices of six.
func TestGiveOfMany(t *testing.T) {
	for choice := range 1 << 6 {
		k := open(t, 21)
		var list []*arena.Buffer
		for i := range 6 {
			k.take(t, i+1)
			if choice>>i&1 == 1 {
				list = append(list, k.all[i].b)
			}
		}
		k.give(list...)
		mustBeBack(t, "Give of many", list...)
		k.check(t, "Give of many")
		slices.Reverse(list)
		k.give(list...)
		k.check(t, "Give of many that were given back")
	}
}

// P14.1: of one that was given back already nothing is, in one call and in two, also when others of as many words were taken behind it.
func TestGiveTwice(t *testing.T) {
	for _, n := range []int{1, 2, 4} {
		k := open(t, 10)
		k.take(t, n)
		k.take(t, n)
		first := k.all[0].b
		k.give(first, first)
		k.check(t, "Give of one twice in one call")
		k.give(first)
		k.check(t, "Give of one twice in two calls")
		k.take(t, n)
		k.give(first, nil, first)
		k.check(t, "Give of one twice, with another one taken behind it")
		k.give(k.all[1].b, first, k.all[1].b)
		k.check(t, "Give of another one twice, and of the first one")
		mustCount(t, "Give twice", k.a, 10, n, 2*n)
	}
}

// P14.1: of one of another arena nothing is given back, here or there, whatever number of buffers both have.
func TestGiveToAnotherArena(t *testing.T) {
	for here := range 4 {
		for there := range 4 {
			k, o := open(t, 10), open(t, 10)
			for range here {
				k.take(t, 2)
			}
			for range there {
				o.take(t, 2)
			}
			for _, h := range o.all {
				k.give(h.b)
				k.check(t, "an arena to which another one's buffer was given")
				o.check(t, "an arena whose buffer was given to another one")
			}
			for _, h := range o.all {
				o.give(h.b)
				k.give(h.b)
			}
			k.check(t, "an arena to which another one's buffer was given that was back")
			o.check(t, "an arena whose buffers were given back to it")
			mustCount(t, "an arena with all given back", o.a, 10, 0, 2*there)
		}
	}
}

// P14.1: of one that was given back by Reset nothing is given back, also when as many buffers were taken behind it.
func TestGiveOfOneFromAheadOfAReset(t *testing.T) {
	for n := range 5 {
		k := open(t, 8)
		for range 4 {
			k.take(t, 2)
		}
		old := []*arena.Buffer{k.all[0].b, k.all[1].b, k.all[2].b, k.all[3].b}
		k.reset()
		k.give(old...)
		k.check(t, "Give of those from ahead of a Reset")
		for range n {
			k.take(t, 2)
		}
		for _, b := range old {
			k.give(b)
			k.check(t, "Give of one from ahead of a Reset, with others taken behind it")
		}
		mustBeBack(t, "those from ahead of a Reset", old...)
		mustCount(t, "takes behind a Reset", k.a, 8, 2*n, 2*n)
	}
}

// P14.1: all these in one call: buffers that are taken, nil, one twice, one given back, another arena's, and one from ahead of a Reset. What is given back is that which is taken here.
func TestGiveOfAllTogether(t *testing.T) {
	k, o := open(t, 40), open(t, 40)
	k.take(t, 4)
	k.reset()
	o.take(t, 3)
	o.take(t, 4)
	for n := 5; n <= 8; n++ {
		k.take(t, n)
	}
	k.give(k.all[1].b)
	list := []*arena.Buffer{nil, k.all[0].b, k.all[2].b, o.all[0].b, k.all[2].b, k.all[1].b, nil, o.all[1].b, k.all[4].b, k.all[0].b, k.all[4].b, nil}
	same := slices.Clone(list)
	k.give(list...)
	mustCount(t, "Give of all together", k.a, 40, 7, 26)
	k.check(t, "Give of all together")
	o.check(t, "an arena whose buffers were given to another one")
	if !slices.Equal(list, same) {
		t.Error("Give has changed its list")
	}
	slices.Reverse(list)
	k.give(list...)
	k.check(t, "Give of all together, the other way about")
	o.give(list...)
	o.check(t, "Give of all together to the other arena")
	k.check(t, "an arena behind a Give to the other one")
	mustCount(t, "the other arena", o.a, 40, 0, 7)
}

// R4: the list that is handed in is neither changed nor kept, and what lies behind its length isn't given back.
func TestGiveKeepsNoList(t *testing.T) {
	k := open(t, 10)
	for range 5 {
		k.take(t, 2)
	}
	list := []*arena.Buffer{k.all[0].b, k.all[1].b, k.all[2].b, k.all[3].b}
	same := slices.Clone(list)
	k.give(list[:2]...)
	k.check(t, "Give of a list's beginning")
	if !slices.Equal(list, same) {
		t.Error("Give has changed its list")
	}
	list[0], list[1] = k.all[3].b, k.all[4].b
	k.check(t, "a change of a list that was given")
	k.take(t, 2)
	k.check(t, "a take behind a change of a list that was given")
}

// P14.1: what was given back is taken again, whatever lies between, and begins with noughts, also when who kept its words writes into them.
func TestTakeAgain(t *testing.T) {
	for _, n := range []int{1, 2, 5, 100, 4096} {
		k := open(t, 3*n)
		for range 3 {
			k.take(t, n)
		}
		kept := k.all[1].b.Words()
		k.give(k.all[0].b, k.all[2].b)
		k.take(t, 2*n) // in one piece, though the two that are back lay apart
		k.check(t, "a take of two that were given back")
		k.give(k.all[1].b)
		k.take(t, n)
		for i := range kept {
			kept[i] = top
		}
		k.check(t, "a take of one that was given back, whose words were kept")
		mustCount(t, "takes of what was given back", k.a, 3*n, 3*n, 3*n)
	}
}

// P14.1: a buffer is given back and taken again time and again: the arena is as it was.
func TestTakeAndGiveInTurns(t *testing.T) {
	a := must(t, 5)
	for i := range 20000 {
		n := i%5 + 1
		b := mustTake(t, a, n)
		mark(b, uint64(i))
		a.Give(b)
		mustCount(t, "an arena with all given back", a, 5, 0, min(i+1, 5))
	}
}

// P14.1: Reset of an arena in which nothing is used, once and twice, of a new one and of one with all given back.
func TestResetOfNothing(t *testing.T) {
	k := open(t, 10)
	k.reset()
	k.check(t, "Reset of a new arena")
	k.reset()
	k.check(t, "Reset of a new arena twice")
	k.take(t, 10)
	k.give(k.all[0].b)
	mustCount(t, "an arena with all given back", k.a, 10, 0, 10)
	k.reset()
	k.check(t, "Reset of an arena with all given back")
	mustCount(t, "Reset of an arena with all given back", k.a, 10, 0, 0)
}

// P14.1: Reset gives all buffers back, few and many, and the peak is 0; behind it all can be taken again.
func TestReset(t *testing.T) {
	for _, count := range []int{1, 2, 3, 8, 100, 1000} {
		k := open(t, 3*count)
		for i := range count {
			k.take(t, i%5+1)
		}
		k.check(t, "an arena with many buffers")
		k.reset()
		for _, h := range k.all {
			mustBeBack(t, "Reset", h.b)
		}
		mustCount(t, "Reset", k.a, 3*count, 0, 0)
		k.reset()
		mustCount(t, "Reset twice", k.a, 3*count, 0, 0)
		k.take(t, count)
		k.check(t, "a take behind a Reset")
		mustCount(t, "a take behind a Reset", k.a, 3*count, count, count)
		k.take(t, 2*count)
		k.take(t, 1)
		k.check(t, "takes of all behind a Reset")
		mustCount(t, "takes of all behind a Reset", k.a, 3*count, 3*count, 3*count)
	}
}

// P14.1: Reset of an arena leaves others as they are.
func TestResetOfOneArena(t *testing.T) {
	k, o := open(t, 10), open(t, 10)
	for n := 1; n <= 4; n++ {
		k.take(t, n)
		o.take(t, n)
	}
	k.reset()
	k.check(t, "Reset")
	o.check(t, "an arena beside one that was reset")
	mustCount(t, "an arena beside one that was reset", o.a, 10, 10, 10)
}

// P14.2: Words are the buffer's own: what is written is read, by each that asks, until it was given back.
func TestWords(t *testing.T) {
	a := must(t, 10)
	b := mustTake(t, a, 4)
	first, second := b.Words(), b.Words()
	first[0], second[3] = 5, top
	mustHave(t, "a buffer that was written", b, []uint64{5, 0, 0, top})
	if first[3] != top || second[0] != 5 {
		t.Error("what is written by one asking isn't read by another one")
	}
	b.Words()[1] = api.P
	mustHave(t, "a buffer that was written", b, []uint64{5, api.P, 0, top})
	a.Give(b)
	mustBeBack(t, "Give", b)
	a.Reset()
	mustBeBack(t, "Reset behind Give", b)
	b = mustTake(t, a, 3)
	a.Reset()
	mustBeBack(t, "Reset", b)
}

// P14.2: Len is how many words there are, of each length up to just 2^24.
func TestLen(t *testing.T) {
	for _, n := range goodCapacities {
		a := must(t, most)
		b := mustTake(t, a, n)
		b.Words()[0], b.Words()[n-1] = 3, 4
		if b.Len() != n || b.Words()[n-1] != 4 || n > 1 && b.Words()[0] != 3 {
			t.Errorf("a buffer of %d words: Len is %d", n, b.Len())
		}
		a.Give(b)
		mustBeBack(t, "Give", b)
	}
}

// P14.2: two buffers share no word: what is written into one is seen in no other one.
func TestBuffersShareNoWord(t *testing.T) {
	k := open(t, 200)
	for i := range 16 {
		k.take(t, i%4+1) // take writes each full
		k.check(t, "buffers that were written")
	}
	k.give(k.all[3].b, k.all[7].b, k.all[8].b)
	k.take(t, 9)
	k.check(t, "buffers that were written")
	for i, h := range k.all {
		for j := range h.want {
			h.b.Words()[j], h.want[j] = uint64(1000*i+j), uint64(1000*i+j)
			k.check(t, "a word that was written")
		}
	}
}

// P14.2: nor when a buffer's words are grown: the arena's other buffers, and the buffer itself, stay as they are.
func TestWordsThatAreGrown(t *testing.T) {
	for _, n := range []int{1, 2, 3, 5, 8, 31} {
		k := open(t, 100)
		for range 3 {
			k.take(t, n)
		}
		for _, h := range k.all {
			grown := h.b.Words()
			for i := range 3 * n {
				grown = append(grown, top-uint64(i))
			}
			k.check(t, "buffers of which one was grown")
			grown[0] = top
			if h.b.Words()[0] == top {
				t.Fatal("what grew is still the buffer's own")
			}
			one, other := append(h.b.Words(), 1), append(h.b.Words(), 2)
			if one[n] != 1 || other[n] != 2 {
				t.Fatal("a buffer's words have others behind them")
			}
			shorter := append(h.b.Words()[:n-1], 77) // within the buffer: that is its own last word
			h.want[n-1] = 77
			if len(shorter) != n {
				t.Fatal("a row of other than n words")
			}
			k.check(t, "buffers of which one was grown within itself")
		}
		mustCount(t, "words that were grown", k.a, 100, 3*n, 3*n)
	}
}

// P14.2: nor do those of two arenas, nor one that is taken and one that was given back.
func TestArenasSideBySide(t *testing.T) {
	k, o := open(t, 12), open(t, 7)
	d := dice(3)
	for range 4000 {
		one, other := k, o
		if d.below(2) == 1 {
			one, other = o, k
		}
		switch d.below(6) {
		case 0, 1:
			one.take(t, d.below(5))
		case 2, 3:
			one.give(one.any(&d), other.any(&d))
		case 4:
			other.give(one.any(&d), nil, one.any(&d))
		case 5:
			if d.below(10) == 0 {
				one.reset()
			}
		}
		k.check(t, "two arenas side by side, the one")
		o.check(t, "two arenas side by side, the other one")
		if len(k.all) > 40 || len(o.all) > 40 {
			k, o = open(t, 12), open(t, 7)
		}
	}
}

// P14.3: the peak stays when buffers are given back, rises only when more is used than before, and is 0 behind Reset.
func TestPeak(t *testing.T) {
	a := must(t, 10)
	b := mustTake(t, a, 4)
	mustCount(t, "Take 4", a, 10, 4, 4)
	a.Give(b)
	mustCount(t, "Give 4", a, 10, 0, 4)
	b = mustTake(t, a, 3)
	mustCount(t, "Take 3, less than before", a, 10, 3, 4)
	c := mustTake(t, a, 1)
	mustCount(t, "Take 1, as much as before", a, 10, 4, 4)
	mustTake(t, a, 1)
	mustCount(t, "Take 1, more than before", a, 10, 5, 5)
	mustRefuse(t, a, 6, api.ErrArena)
	mustCount(t, "Take 6, refused", a, 10, 5, 5)
	a.Give(c, b)
	mustCount(t, "Give 1 and 3", a, 10, 1, 5)
	d := mustTake(t, a, 9)
	mustCount(t, "Take 9", a, 10, 10, 10)
	a.Give(d)
	mustCount(t, "Give 9", a, 10, 1, 10)
	a.Reset()
	mustCount(t, "Reset", a, 10, 0, 0)
	mustTake(t, a, 2)
	mustCount(t, "Take 2 behind Reset", a, 10, 2, 2)
	a.Give(b, c, d)
	mustCount(t, "Give of those from ahead of Reset", a, 10, 2, 2)
}

// P14.1 to P14.3: every row of five calls, of takes, gives and resets, of arenas of few words.
func TestAllCallsOfSmallArenas(t *testing.T) {
	const kinds, length = 7, 5
	for capacity := 1; capacity <= 3; capacity++ {
		rows := 1
		for range length {
			rows *= kinds
		}
		for row := range rows {
			k := open(t, capacity)
			for i, rest := 0, row; i < length; i, rest = i+1, rest/kinds {
				k.call(t, rest%kinds)
				k.check(t, "a row of calls")
			}
		}
	}
}

// call does one of seven things.
func (k *book) call(t *testing.T, kind int) {
	t.Helper()
	last := len(k.all) - 1
	switch {
	case kind < 4:
		k.take(t, kind)
	case kind == 6:
		k.reset()
	case last < 0:
		k.give(nil)
	case kind == 4:
		k.give(k.all[0].b, k.all[last].b)
	default:
		k.give(k.all[last/2].b)
	}
}

// P14.1 to P14.3: long rows of mixed calls; never is more used than the capacity, and the peak falls by Reset alone.
func TestMixedCalls(t *testing.T) {
	for seed, capacity := range []int{1, 2, 9, 50, 300, 1000} {
		d := dice(seed)
		k := open(t, capacity)
		for range 3000 {
			was, reset := k.a.Peak(), false
			switch d.below(8) {
			case 0, 1, 2:
				k.take(t, d.below(capacity/2+2))
			case 3:
				k.take(t, k.a.Free())
			case 4:
				k.take(t, k.a.Free()+1)
			case 5:
				k.give(k.any(&d))
			case 6:
				k.give(k.any(&d), nil, k.any(&d), k.any(&d))
			case 7:
				if reset = d.below(12) == 0; reset {
					k.reset()
				}
			}
			k.check(t, "mixed calls")
			if k.a.Used() > k.a.Cap() || k.a.Used() < 0 || k.a.Peak() > k.a.Cap() || !reset && k.a.Peak() < was {
				t.Fatalf("mixed calls: %d", countsOf(k.a))
			}
			if len(k.all) > 60 {
				k = open(t, capacity)
			}
		}
	}
}

// R8: the same calls to like arenas tell the same, each time.
func TestLikeArenas(t *testing.T) {
	var first []counts
	for range 20 {
		var told []counts
		d := dice(7)
		k := open(t, 64)
		for range 300 {
			k.call(t, d.below(7))
			told = append(told, countsOf(k.a))
		}
		if first == nil {
			first = told
		}
		if !slices.Equal(told, first) {
			t.Fatal("like arenas tell other counts")
		}
	}
}

// P1: calls end and none panics, whatever numbers and buffers come together.
func TestAnyArgument(t *testing.T) {
	numbers := slices.Concat(badCapacities, noTakes, farTakes, []int{1, 2, 3, 10})
	var given []*arena.Buffer
	for _, n := range numbers {
		a := arena.New(n)
		if a == nil {
			continue
		}
		for _, m := range numbers {
			b, _ := a.Take(m)
			given = append(given, b)
			a.Give(given...)
			if b != nil {
				mustBeBack(t, "Give", b)
			}
			b, _ = a.Take(m)
			given = append(given, b)
			a.Reset()
			a.Give(given...)
			a.Give(nil, b, nil)
		}
		mustCount(t, "an arena of any arguments", a, n, 0, 0)
	}
}

// The book that the tests keep is the document's own: it is held against what is written out by hand.
func TestTheTestsOwnBook(t *testing.T) {
	k := &book{a: must(t, 10), capacity: 10, all: []*held{{want: make([]uint64, 4)}, {}, {want: make([]uint64, 3)}}}
	if k.used() != 7 {
		t.Errorf("%d are used, not 7", k.used())
	}
	for _, c := range []struct {
		n    int
		want api.Errno
	}{{math.MinInt, api.ErrArg}, {-1, api.ErrArg}, {0, api.ErrArg}, {1, api.OK}, {3, api.OK}, {4, api.ErrArena}, {11, api.ErrArena}, {math.MaxInt - 6, api.ErrArena}, {math.MaxInt, api.ErrArena}} {
		if e := k.answer(c.n); e != c.want {
			t.Errorf("a take of %d is to tell %d, not %d", c.n, c.want, e)
		}
	}
	b := mustTake(t, k.a, 3)
	if l := mark(b, 2); !slices.Equal(l, []uint64{2<<32 + 1, 2<<32 + 2, 2<<32 + 3}) || !slices.Equal(b.Words(), l) {
		t.Errorf("a mark is %d", l)
	}
	if d := dice(1); d.below(1) != 0 || d.below(5) > 4 {
		t.Error("dice tell something else")
	}
}
