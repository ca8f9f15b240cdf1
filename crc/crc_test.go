package crc_test

import (
	"bytes"
	"math"
	"slices"
	"testing"

	"abacist/api"
	"abacist/codec"
	"abacist/crc"
)

// allBits are 32 bits, each of them 1.
const allBits = math.MaxUint32

// period is behind how many noughts each sum is again what it was: x has the order 2^31 - 1, and a byte is eight times x.
const period = 1<<31 - 1

// someSums are sums at the ends, and others.
var someSums = []uint32{0, 1, 2, 3, 0x80, 0xff, 0x100, 0x82f63b78, 0x7fffffff, 0x80000000, 0x80000001, 0xe3069283, 0x55555555, 0xaaaaaaaa, allBits - 1, allBits}

// someWords are words at the ends, and others; from P on they aren't canonical.
var someWords = []uint64{0, 1, 2, 0x7f, 0x80, 0xff, 0x100, 1 << 31, 1<<32 - 1, 1 << 32, 0x0102030405060708, 0x3132333435363738, 1 << 62, 1 << 63, api.P - 1, api.P, api.P + 1, math.MaxUint64 - 1, math.MaxUint64}

// belowOne are how many bytes none are.
var belowOne = []int{0, -1, -2, -3, -8, -100, -1 << 31, -1<<31 - 1, -1 << 32, -1<<32 + 1, -1 << 60, -1 << 61, -1 << 62, math.MinInt + 1, math.MinInt}

// greats are numbers of bytes that no memory has; of some of them eight times as many is beyond any int.
var greats = []int{1 << 20, 1<<29 - 1, 1 << 29, 1<<31 - 2, 1<<31 - 1, 1 << 31, 1<<32 - 1, 1 << 32, 1<<32 + 1, 1 << 40, 1<<60 - 1, 1 << 60, 1<<61 - 1, 1 << 61, 1<<61 + 1, 1 << 62, 3 << 61, math.MaxInt - 8, math.MaxInt - 1, math.MaxInt}

// dice are numbers that a fixed rule mixes.
type dice uint64

// word is one of all words.
func (d *dice) word() uint64 {
	*d = *d*6364136223846793005 + 1442695040888963407
	high := uint64(*d) >> 32
	*d = *d*6364136223846793005 + 1442695040888963407
	return high<<32 | uint64(*d)>>32
}

// below is a number from 0 to n - 1.
func (d *dice) below(n int) int {
	return int(d.word() >> 1 % uint64(n))
}

// bytes are n bytes.
func (d *dice) bytes(n int) []byte {
	b := make([]byte, n)
	for i := range b {
		b[i] = byte(d.below(256))
	}
	return b
}

// words are n words.
func (d *dice) words(n int) []uint64 {
	l := make([]uint64, n)
	for i := range l {
		l[i] = d.word()
	}
	return l
}

// parts are b, cut at places of any kind, some parts being empty or nil.
func (d *dice) parts(b []byte) (l [][]byte) {
	for len(b) > 0 {
		n := d.below(len(b) + 1)
		if n == 0 && d.below(2) == 0 {
			l = append(l, nil)
			continue
		}
		l, b = append(l, b[:n]), b[n:]
	}
	return l
}

// goOn is what bits become by bytes more, bit by bit, as the section 'Words' says: neither are all of them 1 at first, nor are they turned at last.
func goOn(bits uint32, b []byte) uint32 {
	for _, v := range b {
		for i := range 8 {
			bits ^= uint32(v>>i) & 1
			out := bits & 1
			bits >>= 1
			if out == 1 {
				bits ^= 0x82f63b78
			}
		}
	}
	return bits
}

// plain is the sum of bytes, bit by bit.
func plain(b []byte) uint32 {
	return ^goOn(allBits, b)
}

// form is words' form: eight bytes each, the lowest first.
func form(l ...uint64) (b []byte) {
	for _, w := range l {
		for range 8 {
			b, w = append(b, byte(w)), w>>8
		}
	}
	return b
}

// matrix is what a number of noughts does to bits: what it makes of each of the 32 bits by itself.
type matrix [32]uint32

// byteMatrix is one nought.
func byteMatrix() (m matrix) {
	for i := range m {
		m[i] = goOn(1<<i, []byte{0})
	}
	return m
}

// of is what the noughts make of bits.
func (m matrix) of(bits uint32) (sum uint32) {
	for i, column := range m {
		if bits>>i&1 == 1 {
			sum ^= column
		}
	}
	return sum
}

// then is the noughts of m, and those of n behind them.
func (m matrix) then(n matrix) (both matrix) {
	for i := range both {
		both[i] = n.of(m[i])
	}
	return both
}

// plainJoin is what Join is to tell: by matrices, doubled as often as n has bits.
func plainJoin(a, b uint32, n int) uint32 {
	if n < 1 {
		return a
	}
	for m := byteMatrix(); n > 0; n >>= 1 {
		if n&1 == 1 {
			a = m.of(a)
		}
		m = m.then(m)
	}
	return a ^ b
}

// turned is b with the bits from one place to another turned, counted from the lowest bit of the first byte on.
func turned(b []byte, from, to int) []byte {
	b = bytes.Clone(b)
	for i := from; i < to; i++ {
		b[i/8] ^= 1 << (i % 8)
	}
	return b
}

// known are bytes whose sums are written down elsewhere.
var known = []struct {
	text string
	sum  uint32
}{
	{"", 0},
	{"\x00", 0x527d5351},
	{"\xff", 0xff000000},
	{"a", 0xc1d04330},
	{"abc", 0x364b3fb7},
	{"123456789", 0xe3069283},
	{"\xff\xff\xff\xff", 0xffffffff},
	{"\x00\x00\x00\x00", 0x48674bc7},
	{"The quick brown fox jumps over the lazy dog", 0x22620404},
}

// The model of these tests: the plain account tells sums that are known, of 32 noughts, 32 bytes of bits 1, 32 rising and 32 falling bytes, too; the matrices tell what noughts that are written out do.
func TestPlain(t *testing.T) {
	for _, k := range known {
		if s := plain([]byte(k.text)); s != k.sum {
			t.Errorf("%q: %08x, want %08x", k.text, s, k.sum)
		}
	}
	up, down := make([]byte, 32), make([]byte, 32)
	for i := range up {
		up[i], down[i] = byte(i), byte(31-i)
	}
	for i, k := range []struct {
		b   []byte
		sum uint32
	}{{make([]byte, 32), 0x8a9136aa}, {bytes.Repeat([]byte{0xff}, 32), 0x62a8ab43}, {up, 0x46dd794e}, {down, 0x113fdb5c}} {
		if s := plain(k.b); s != k.sum {
			t.Errorf("%d: %08x, want %08x", i, s, k.sum)
		}
	}
	for n := range 70 {
		for _, a := range someSums {
			if s := plainJoin(a, 0, n); s != goOn(a, make([]byte, n)) {
				t.Errorf("%d noughts behind %08x: %08x", n, a, s)
			}
		}
	}
	if b := form(1, 0x0102030405060708); !bytes.Equal(b, []byte{1, 0, 0, 0, 0, 0, 0, 0, 8, 7, 6, 5, 4, 3, 2, 1}) {
		t.Errorf("form: %d", b)
	}
	if b := turned([]byte{0, 0, 0xff}, 7, 18); !bytes.Equal(b, []byte{0x80, 0xff, 0xfc}) {
		t.Errorf("turned: %x", b)
	}
}

// P16.1, the example: the nine bytes 31 to 39 have the sum e3069283, by each of the ways that lead to it; and so have other bytes sums that are known.
func TestKnown(t *testing.T) {
	for _, k := range known {
		b := []byte(k.text)
		var c crc.Counter
		c.Add(b)
		for i, s := range []uint32{crc.Of(b), crc.More(0, b), crc.Sum(b), crc.Join(0, crc.Of(b), len(b)), c.Sum()} {
			if s != k.sum {
				t.Errorf("%q, %d: %08x, want %08x", k.text, i, s, k.sum)
			}
		}
	}
	if s := crc.Sum([]byte("1234"), []byte("56789")); s != 0xe3069283 {
		t.Errorf("the example in two parts: %08x", s)
	}
}

// P16.1 and R3: no bytes have the sum 0, nil or a list without elements.
func TestOfNoBytes(t *testing.T) {
	for i, s := range []uint32{crc.Of(nil), crc.Of([]byte{}), crc.Of([]byte{1, 2, 3}[:0]), crc.OfWords(), crc.OfWords(nil...), crc.OfWords([]uint64{}...), crc.Sum(), crc.Sum(nil...), crc.Sum(nil), crc.Sum([]byte{}), crc.Sum(nil, []byte{}, nil)} {
		if s != 0 {
			t.Errorf("%d: %08x", i, s)
		}
	}
}

// P16.1: one byte of each of the 256, by itself and behind others.
func TestOfEachByte(t *testing.T) {
	seen := map[uint32]int{}
	for v := range 256 {
		for n := range 6 {
			b := append(bytes.Repeat([]byte{byte(255 - v)}, n), byte(v))
			if s := crc.Of(b); s != plain(b) {
				t.Errorf("%x: %08x, want %08x", b, s, plain(b))
			}
		}
		s := crc.Of([]byte{byte(v)})
		if old, ok := seen[s]; ok {
			t.Errorf("the bytes %d and %d have the same sum", old, v)
		}
		seen[s] = v
	}
}

// P16.1: two bytes of each kind, and bytes that turn all bits into noughts on their way.
func TestOfTwoBytes(t *testing.T) {
	for v := range 1 << 16 {
		b := []byte{byte(v), byte(v >> 8)}
		if s := crc.Of(b); s != plain(b) {
			t.Fatalf("%x: %08x, want %08x", b, s, plain(b))
		}
	}
	for n := range 40 {
		b := append([]byte{0xff, 0xff, 0xff, 0xff}, make([]byte, n)...)
		if s := crc.Of(b); s != allBits {
			t.Errorf("%d noughts behind four bytes of bits 1: %08x", n, s)
		}
	}
}

// P16.1: bytes of each length up to some hundred, and many bytes.
func TestOf(t *testing.T) {
	d := dice(1)
	for n := range 400 {
		for range 3 {
			b := d.bytes(n)
			if s := crc.Of(b); s != plain(b) {
				t.Fatalf("%x: %08x, want %08x", b, s, plain(b))
			}
		}
	}
	for _, n := range []int{4095, 4096, 4097, 65535, 65536, 65537, 1 << 20, 1<<20 + 3} {
		b := d.bytes(n)
		if s := crc.Of(b); s != plain(b) {
			t.Errorf("%d bytes: %08x, want %08x", n, s, plain(b))
		}
	}
}

// P16.1: noughts, and bytes of bits 1, of many lengths: each length has its own sum.
func TestOfSameBytes(t *testing.T) {
	for _, v := range []byte{0, 0xff, 0x31} {
		seen := map[uint32]int{}
		for n := range 1000 {
			b := bytes.Repeat([]byte{v}, n)
			s := crc.Of(b)
			if s != plain(b) {
				t.Errorf("%d bytes %x: %08x, want %08x", n, v, s, plain(b))
			}
			if old, ok := seen[s]; ok {
				t.Errorf("%d and %d bytes %x have the same sum", old, n, v)
			}
			seen[s] = n
		}
	}
}

// P16.1: the sum of words is that of their forms, of words that aren't canonical, too.
func TestOfWords(t *testing.T) {
	for _, w := range someWords {
		if s := crc.OfWords(w); s != plain(form(w)) {
			t.Errorf("%x: %08x, want %08x", w, s, plain(form(w)))
		}
		for _, v := range someWords {
			if s := crc.OfWords(v, w, v); s != plain(form(v, w, v)) {
				t.Errorf("%x, %x, %x: %08x", v, w, v, s)
			}
		}
	}
	for i := range 64 {
		if s := crc.OfWords(1 << i); s != plain(form(1<<i)) {
			t.Errorf("2^%d: %08x", i, s)
		}
	}
	d := dice(2)
	for n := range 200 {
		l := d.words(n)
		if s := crc.OfWords(l...); s != plain(form(l...)) || s != crc.Of(codec.Put(l...)) {
			t.Fatalf("%d words: %08x, want %08x", n, s, plain(form(l...)))
		}
	}
	l := d.words(1 << 17)
	if s := crc.OfWords(l...); s != plain(form(l...)) {
		t.Errorf("2^17 words: %08x", s)
	}
}

// P16.1: words are told from others in another order, from a nought more, and from P more, though the field takes the last for the same.
func TestOfWordsUnlike(t *testing.T) {
	of := crc.OfWords
	for i, same := range []bool{of(1, 2) == of(2, 1), of(1) == of(1, 0), of(0) == of(), of(0, 0) == of(0), of(1) == of(0, 1), of(5) == of(api.P+5), of(0) == of(api.P), of(1) == crc.Of([]byte{1}), of(1, 2) == of(1|2<<32)} {
		if same {
			t.Errorf("%d: the same sum", i)
		}
	}
}

// P16.1: More of a sum and bytes is the sum of all, cut at each place.
func TestMore(t *testing.T) {
	d := dice(3)
	for n := range 130 {
		b := d.bytes(n)
		for at := range n + 1 {
			if s := crc.More(crc.Of(b[:at]), b[at:]); s != plain(b) || s != crc.Of(b) {
				t.Fatalf("%x at %d: %08x, want %08x", b, at, s, plain(b))
			}
		}
	}
	b := d.bytes(1 << 18)
	for _, at := range []int{0, 1, 1000, 1 << 17, 1<<18 - 1, 1 << 18} {
		if s := crc.More(crc.Of(b[:at]), b[at:]); s != plain(b) {
			t.Errorf("2^18 bytes at %d: %08x", at, s)
		}
	}
}

// P16.1 and P1: More of every sum, whichever bytes have it, 0 and all bits 1 with it; of no bytes it is the sum.
func TestMoreOfEachSum(t *testing.T) {
	d := dice(4)
	sums := slices.Clone(someSums)
	for range 200 {
		sums = append(sums, uint32(d.word()))
	}
	for _, sum := range sums {
		for _, none := range [][]byte{nil, {}} {
			if s := crc.More(sum, none); s != sum {
				t.Errorf("%08x and nothing: %08x", sum, s)
			}
		}
		for _, n := range []int{1, 2, 3, 4, 5, 8, 33} {
			b := d.bytes(n)
			if s := crc.More(sum, b); s != ^goOn(^sum, b) {
				t.Errorf("%08x and %x: %08x, want %08x", sum, b, s, ^goOn(^sum, b))
			}
		}
	}
}

// P16.1: the sum of parts is that of all, one behind the other; parts that are nil or empty add nothing, wherever they are.
func TestSum(t *testing.T) {
	d := dice(5)
	for n := range 150 {
		b := d.bytes(n)
		for range 6 {
			parts := d.parts(b)
			if s := crc.Sum(parts...); s != plain(b) {
				t.Fatalf("%x in %d parts: %08x, want %08x", b, len(parts), s, plain(b))
			}
		}
	}
	x, y := []byte("hello, "), []byte("world")
	all := plain([]byte("hello, world"))
	for i, s := range []uint32{crc.Sum(x, y), crc.Sum(nil, x, y), crc.Sum(x, nil, y), crc.Sum(x, y, nil), crc.Sum([]byte{}, x, []byte{}, nil, y, []byte{})} {
		if s != all {
			t.Errorf("%d: %08x, want %08x", i, s, all)
		}
	}
	if crc.Sum(y, x) == all || crc.Sum(x, y, []byte{0}) == all || crc.Sum(x, x) != plain([]byte("hello, hello, ")) {
		t.Error("parts in another order, a nought more, or one part twice")
	}
	single := make([][]byte, 5000)
	for i := range single {
		single[i] = []byte{byte(i * 7)}
	}
	if s := crc.Sum(single...); s != plain(bytes.Join(single, nil)) {
		t.Errorf("5000 parts: %08x", s)
	}
}

// P16.2: Join of two sums is the sum of all, for parts of every length up to some hundred.
func TestJoin(t *testing.T) {
	d := dice(6)
	b := d.bytes(600)
	for n := range 300 {
		for _, m := range []int{0, 1, 2, 3, 4, 5, 8, 100, 299} {
			first, second := b[:m], b[m:m+n]
			if s := crc.Join(crc.Of(first), crc.Of(second), n); s != plain(b[:m+n]) {
				t.Fatalf("%d and %d bytes: %08x, want %08x", m, n, s, plain(b[:m+n]))
			}
			first, second = b[:n], b[n:n+m]
			if s := crc.Join(crc.Of(first), crc.Of(second), m); s != plain(b[:m+n]) {
				t.Fatalf("%d and %d bytes: %08x, want %08x", n, m, s, plain(b[:m+n]))
			}
		}
	}
	for range 20 {
		b := d.bytes(1000 + d.below(100000))
		at := d.below(len(b))
		if s := crc.Join(crc.Of(b[:at]), crc.Of(b[at:]), len(b)-at); s != plain(b) {
			t.Errorf("%d of %d bytes: %08x, want %08x", at, len(b), s, plain(b))
		}
	}
}

// P16.2: exact sums, of one byte behind others, of noughts, and of words.
func TestJoinKnown(t *testing.T) {
	for i, k := range []struct {
		a, b uint32
		n    int
		sum  uint32
	}{
		{plain([]byte("12345678")), plain([]byte("9")), 1, 0xe3069283},
		{plain([]byte("1")), plain([]byte("23456789")), 8, 0xe3069283},
		{0, 0xe3069283, 9, 0xe3069283},
		{0, 0, 1, 0},
		{0, 0, math.MaxInt, 0},
		{0, allBits, math.MaxInt, allBits},
		{0x80000000, 0, 1, 0x00800000},
		{0x80000000, 0, 2, 0x00008000},
		{0x80000000, 0, 3, 0x00000080},
		{0x80000000, 0, 4, 0x82f63b78},
		{0x80000000, 0x82f63b78, 4, 0},
		{0x00000080, 5, 1, 0x82f63b7d},
	} {
		if s := crc.Join(k.a, k.b, k.n); s != k.sum {
			t.Errorf("%d: %08x, want %08x", i, s, k.sum)
		}
	}
	if s := crc.Join(crc.OfWords(1, 2), crc.OfWords(3), 8); s != plain(form(1, 2, 3)) {
		t.Errorf("words: %08x", s)
	}
}

// P16.2 and R7: of n below 1 it is the first sum, whatever the second one is, down to the least int.
func TestJoinOfNone(t *testing.T) {
	for _, n := range belowOne {
		for _, a := range someSums {
			for _, b := range someSums {
				if s := crc.Join(a, b, n); s != a {
					t.Errorf("Join(%08x, %08x, %d): %08x", a, b, n, s)
				}
			}
		}
	}
}

// P16.2, P1 and R7: of n up to the greatest int it is what exact numbers tell, by matrices; of all sums, whichever bytes have them.
func TestJoinOfMany(t *testing.T) {
	d := dice(7)
	numbers := slices.Concat(greats, []int{1, 2, 3, 4, 5, 7, 8, 9, 255, 256, 1000, 65535, 65536})
	for range 40 {
		numbers = append(numbers, 1+int(d.word()>>1>>d.below(63)))
	}
	for _, n := range numbers {
		for _, a := range someSums {
			b := uint32(d.word())
			if s := crc.Join(a, b, n); s != plainJoin(a, b, n) {
				t.Errorf("Join(%08x, %08x, %d): %08x, want %08x", a, b, n, s, plainJoin(a, b, n))
			}
		}
	}
}

// P16.2 and R7: 2^31 - 1 noughts leave each sum as it is, and the greatest int is one more than a multiple of that.
func TestJoinOfAPeriod(t *testing.T) {
	for _, a := range someSums {
		for _, b := range someSums {
			for _, times := range []int{1, 2, 3, 1000, 1 << 20, math.MaxInt / period} {
				if s := crc.Join(a, b, times*period); s != a^b {
					t.Fatalf("Join(%08x, %08x, %d periods): %08x", a, b, times, s)
				}
			}
			if crc.Join(a, b, math.MaxInt) != crc.Join(a, b, 1) || crc.Join(a, b, math.MaxInt-1) != a^b || crc.Join(a, b, 100+period) != crc.Join(a, b, 100) {
				t.Fatalf("Join(%08x, %08x, the greatest int)", a, b)
			}
		}
	}
}

// P16.2: three parts are joined from the front or from behind, and come to the same.
func TestJoinThree(t *testing.T) {
	d := dice(8)
	for range 300 {
		x, y, z := d.bytes(d.below(50)), d.bytes(d.below(50)), d.bytes(d.below(50))
		a, b, c := crc.Of(x), crc.Of(y), crc.Of(z)
		front := crc.Join(crc.Join(a, b, len(y)), c, len(z))
		behind := crc.Join(a, crc.Join(b, c, len(z)), len(y)+len(z))
		if want := plain(slices.Concat(x, y, z)); front != want || behind != want {
			t.Fatalf("%x, %x, %x: %08x and %08x, want %08x", x, y, z, front, behind, want)
		}
	}
}

// P16.3: the zero counter is a new one: its sum is that of no bytes, and nothing was counted.
func TestNewCounter(t *testing.T) {
	var c crc.Counter
	if c.Sum() != 0 || c.Len() != 0 {
		t.Errorf("%08x, %d", c.Sum(), c.Len())
	}
	p := new(crc.Counter)
	p.Add(nil)
	p.Add([]byte{})
	p.AddWords()
	p.AddWords(nil...)
	p.AddWords([]uint64{}...)
	if p.Sum() != 0 || p.Len() != 0 {
		t.Errorf("of nothing: %08x, %d", p.Sum(), p.Len())
	}
	q := crc.Counter{}
	q.Add([]byte("123456789"))
	if q.Sum() != 0xe3069283 || q.Len() != 9 {
		t.Errorf("the example: %08x, %d", q.Sum(), q.Len())
	}
}

// tell holds a counter against all bytes so far.
func tell(t *testing.T, name string, c *crc.Counter, all []byte) {
	t.Helper()
	for range 2 { // to be asked changes nothing
		if c.Sum() != plain(all) || c.Len() != len(all) {
			t.Fatalf("%s: %08x of %d bytes, want %08x of %d", name, c.Sum(), c.Len(), plain(all), len(all))
		}
	}
}

// P16.3: bytes, words, and both by turns, asked behind each.
func TestCounter(t *testing.T) {
	d := dice(9)
	var onlyBytes, onlyWords, both crc.Counter
	var b, w, all []byte
	for range 60 {
		more, words := d.bytes(d.below(20)), d.words(d.below(4))
		onlyBytes.Add(more)
		onlyWords.AddWords(words...)
		b, w = append(b, more...), append(w, form(words...)...)
		tell(t, "bytes", &onlyBytes, b)
		tell(t, "words", &onlyWords, w)
		both.Add(more)
		all = append(all, more...)
		tell(t, "both, behind bytes", &both, all)
		both.AddWords(words...)
		all = append(all, form(words...)...)
		tell(t, "both, behind words", &both, all)
	}
}

// P16.3: words at the ends, one by one and together, behind a byte and ahead of one.
func TestCounterOfWords(t *testing.T) {
	for _, w := range someWords {
		var c crc.Counter
		c.AddWords(w)
		tell(t, "a word", &c, form(w))
		c.Add([]byte{7})
		tell(t, "a byte behind a word", &c, append(form(w), 7))
		c.AddWords(w, w)
		tell(t, "words behind a byte", &c, slices.Concat(form(w), []byte{7}, form(w, w)))
	}
	var c crc.Counter
	c.AddWords(someWords...)
	tell(t, "all of them", &c, form(someWords...))
}

// P16.3: many bytes and many words.
func TestCounterOfMany(t *testing.T) {
	d := dice(10)
	b, l := d.bytes(1<<18), d.words(1<<15)
	var c crc.Counter
	c.Add(b)
	c.AddWords(l...)
	c.Add(b)
	tell(t, "many", &c, slices.Concat(b, form(l...), b))
	for range 100 {
		c.Add(b)
	}
	if want := 102<<18 + 8<<15; c.Len() != want {
		t.Errorf("%d bytes, want %d", c.Len(), want)
	}
}

// P16.3: two counters beside one another; one that was copied goes on by itself.
func TestTwoCounters(t *testing.T) {
	var c, d crc.Counter
	c.Add([]byte("1234"))
	d.AddWords(5)
	c.Add([]byte("56789"))
	tell(t, "the first", &c, []byte("123456789"))
	tell(t, "the second", &d, form(5))
	e := c
	e.Add([]byte{1})
	tell(t, "a copy", &e, []byte("123456789\x01"))
	tell(t, "what was copied", &c, []byte("123456789"))
	c.AddWords(3)
	tell(t, "the copy again", &e, []byte("123456789\x01"))
	tell(t, "the second again", &d, form(5))
}

// P16.4: however bytes come in parts, the sum is the same: all cuts into three parts, by each of the ways.
func TestParts(t *testing.T) {
	b := new(dice).bytes(40)
	want := plain(b)
	for i := range len(b) + 1 {
		for j := i; j <= len(b); j++ {
			x, y, z := b[:i], b[i:j], b[j:]
			var c crc.Counter
			c.Add(x)
			c.Add(y)
			c.Add(z)
			joined := crc.Join(crc.Join(crc.Of(x), crc.Of(y), len(y)), crc.Of(z), len(z))
			for n, s := range []uint32{crc.Sum(x, y, z), crc.More(crc.More(crc.Of(x), y), z), c.Sum(), joined} {
				if s != want || c.Len() != len(b) {
					t.Fatalf("cut at %d and %d, %d: %08x, want %08x", i, j, n, s, want)
				}
			}
		}
	}
}

// P16.4: bytes one by one, by eights as words, and in parts of any lengths have the same sum.
func TestOtherParts(t *testing.T) {
	d := dice(11)
	for range 100 {
		l := d.words(1 + d.below(40))
		b := form(l...)
		var single, words, cut crc.Counter
		sum := uint32(0)
		for i := range b {
			single.Add(b[i : i+1])
			sum = crc.More(sum, b[i:i+1])
		}
		for _, w := range l {
			words.AddWords(w)
		}
		for _, p := range d.parts(b) {
			cut.Add(p)
		}
		for i, s := range []uint32{single.Sum(), sum, words.Sum(), cut.Sum(), crc.OfWords(l...), crc.Of(b)} {
			if s != plain(b) {
				t.Fatalf("%d words, %d: %08x, want %08x", len(l), i, s, plain(b))
			}
		}
	}
}

// messages are bytes whose bits are turned: noughts, bits 1, and others, short and long.
func messages() [][]byte {
	d := dice(12)
	return [][]byte{{0}, {0xff}, {0x31, 0}, []byte("1234"), []byte("123456789"), make([]byte, 64), bytes.Repeat([]byte{0xff}, 37), d.bytes(5), d.bytes(100)}
}

// P16.4: each single bit that is turned turns the sum, and so do each two and each run of up to 32 bits, at every place.
func TestTurnedRuns(t *testing.T) {
	for _, b := range messages() {
		sum, bits := crc.Of(b), 8*len(b)
		for from := range bits {
			for to := from + 1; to <= min(from+32, bits); to++ {
				if crc.Of(turned(b, from, to)) == sum {
					t.Fatalf("%x: the bits %d to %d, turned, leave %08x", b, from, to, sum)
				}
			}
		}
	}
}

// P16.4: any bits among 32 side by side that are turned turn the sum: each two, and others, at the first byte, in the middle and at the last one.
func TestTurnedAmong32(t *testing.T) {
	d := dice(13)
	for _, b := range messages() {
		sum, bits := crc.Of(b), 8*len(b)
		for i := range bits {
			for j := i + 1; j < min(i+32, bits); j++ {
				if crc.Of(turned(turned(b, i, i+1), j, j+1)) == sum {
					t.Fatalf("%x: the bits %d and %d, turned, leave %08x", b, i, j, sum)
				}
			}
		}
		for _, from := range []int{0, 3, max(0, bits/2-16), max(0, bits-32), max(0, bits-35)} {
			for range 200 {
				other := bytes.Clone(b)
				for i := from; i < min(from+32, bits); i++ {
					if d.below(2) == 1 {
						other = turned(other, i, i+1)
					}
				}
				if !bytes.Equal(other, b) && crc.Of(other) == sum {
					t.Fatalf("%x and %x have the sum %08x", b, other, sum)
				}
			}
		}
	}
}

// P16.4: what is turned in one of many bytes, or in one word of many, is told: at the first one, in the middle and at the last one.
func TestTurnedOfMany(t *testing.T) {
	d := dice(14)
	b := d.bytes(1 << 16)
	l := d.words(1 << 12)
	sum, words := crc.Of(b), crc.OfWords(l...)
	for _, at := range []int{0, 1, 1 << 18, 8*len(b) - 33, 8*len(b) - 32} {
		for _, n := range []int{1, 2, 8, 31, 32} {
			if crc.Of(turned(b, at, at+n)) == sum {
				t.Errorf("%d bits at %d", n, at)
			}
		}
	}
	for _, at := range []int{0, len(l) / 2, len(l) - 1} {
		for i := range 64 {
			for _, mask := range []uint64{1 << i, 3 << i, 0xffffffff << i} {
				other := slices.Clone(l)
				other[at] ^= mask
				if crc.OfWords(other...) == words {
					t.Errorf("word %d, %x turned", at, mask)
				}
			}
		}
	}
}

// R4: what is handed in is neither changed nor kept, and what lies behind a list's length is neither read nor written.
func TestMemory(t *testing.T) {
	d := dice(15)
	b, l := d.bytes(100), d.words(40)
	oldB, oldL := bytes.Clone(b), slices.Clone(l)
	parts := [][]byte{b[:10], nil, b[10:50], b[50:60]}
	var c crc.Counter
	run := func() []uint32 {
		c = crc.Counter{}
		c.Add(b[:50])
		c.AddWords(l[:20]...)
		c.Add(b[50:60])
		return []uint32{crc.Of(b[:60]), crc.OfWords(l[:20]...), crc.More(77, b[:60]), crc.Sum(parts[:3]...), c.Sum()}
	}
	first := run()
	if !bytes.Equal(b, oldB) || !slices.Equal(l, oldL) || len(parts) != 4 || parts[1] != nil || !bytes.Equal(parts[3], oldB[50:60]) {
		t.Error("what was handed in is changed")
	}
	for i := 60; i < 100; i++ {
		b[i] ^= 0xff
	}
	for i := 20; i < 40; i++ {
		l[i]++
	}
	if again := run(); !slices.Equal(first, again) {
		t.Errorf("what lies behind is read: %08x, then %08x", first, again)
	}
	clear(b)
	clear(l)
	if c.Sum() != first[4] || c.Len() != 220 {
		t.Error("the counter keeps what was handed in")
	}
}

// R8: the same questions have the same answers, whatever was asked between them.
func TestSameAnswers(t *testing.T) {
	d := dice(16)
	b, l := d.bytes(77), d.words(9)
	ask := func() []uint32 {
		var c crc.Counter
		c.AddWords(l...)
		c.Add(b)
		return []uint32{crc.Of(b), crc.OfWords(l...), crc.More(3, b), crc.Join(1, 2, 3), crc.Sum(b, b), c.Sum(), uint32(c.Len())}
	}
	first := ask()
	for range 5 {
		crc.Of(d.bytes(d.below(100)))
		crc.Join(uint32(d.word()), uint32(d.word()), int(d.word()))
		if again := ask(); !slices.Equal(first, again) {
			t.Fatalf("%08x, then %08x", first, again)
		}
	}
}

// P1: Of, OfWords, More, Join, Sum and a counter's methods end and don't panic, at arguments of any kind.
func TestAnyArgument(t *testing.T) {
	d := dice(17)
	var c crc.Counter
	for range 2000 {
		b, l := d.bytes(d.below(12)), d.words(d.below(5))
		a, n := uint32(d.word()), int(d.word())>>d.below(64)
		crc.Of(b)
		crc.OfWords(l...)
		crc.More(a, b)
		crc.Join(a, crc.Of(b), n)
		crc.Sum(d.parts(b)...)
		c.Add(b)
		c.AddWords(l...)
	}
	for _, n := range slices.Concat(belowOne, greats) {
		for _, a := range someSums {
			for _, b := range someSums {
				crc.Join(a, b, n)
			}
		}
	}
}
