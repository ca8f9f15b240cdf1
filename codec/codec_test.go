package codec

import (
	"bytes"
	"encoding/binary"
	"math"
	"math/big"
	"regexp"
	"slices"
	"strings"
	"testing"

	"abacist/api"
)

const (
	prime = api.P
	top   = uint64(math.MaxUint64)
)

// goodWords are edges of canonical words, each power of ten and of 256 among them, and words that a fixed rule mixes.
func goodWords() []uint64 {
	l := []uint64{0, 1, 2, 5, 9, 255, 1<<32 - 1, 1 << 32, 1 << 63, 0x0123456789abcdef, 0xf0debc9a78563412, prime - 2, prime - 1}
	for n := uint64(10); n < 1e19; n *= 10 {
		l = append(l, n-1, n, n+1)
	}
	l = append(l, 1e19-1, 1e19)
	for i := range 8 {
		l = append(l, 1<<(8*i), 0x80<<(8*i))
	}
	w := uint64(1)
	for range 20 {
		w = w*6364136223846793005 + 1442695040888963407
		l = append(l, (w^w>>29)%prime)
	}
	return l
}

// badWords aren't canonical: from P on to the greatest one.
func badWords() []uint64 {
	return []uint64{prime, prime + 1, prime + 1<<31, top - 1, top}
}

// formOf is a row's form, by the library's own means.
func formOf(l ...uint64) []byte {
	var b []byte
	for _, w := range l {
		b = binary.LittleEndian.AppendUint64(b, w)
	}
	return b
}

// textOf is a row's text, by exact numbers.
func textOf(l ...uint64) string {
	var parts []string
	for _, w := range l {
		parts = append(parts, new(big.Int).SetUint64(w).String())
	}
	return strings.Join(parts, " ")
}

// someRows are rows of every length from none on, whose words begin at each place of l.
func someRows(l []uint64) [][]uint64 {
	rows := [][]uint64{nil, {}}
	for i := range l {
		rows = append(rows, l[:i+1], l[i:], l[i:i+1])
	}
	return rows
}

func mustTake(t *testing.T, b []byte, want []uint64) {
	t.Helper()
	if l, at, e := Take(b); !slices.Equal(l, want) || at != 0 || e != api.OK {
		t.Errorf("Take(%x) = %v, %d, %d, want %v", b, l, at, e, want)
	}
}

// mustNotTake holds zero values beside the error (R3), but for the place.
func mustNotTake(t *testing.T, b []byte, place int, want api.Errno) {
	t.Helper()
	if l, at, e := Take(b); len(l) != 0 || at != place || e != want {
		t.Errorf("Take(%x) = %v, %d, %d, want the place %d and %d", b, l, at, e, place, want)
	}
}

func mustRead(t *testing.T, s string, want []uint64) {
	t.Helper()
	if l, at, e := Read(s); !slices.Equal(l, want) || at != 0 || e != api.OK {
		t.Errorf("Read(%q) = %v, %d, %d, want %v", s, l, at, e, want)
	}
}

// mustNotRead holds zero values beside the error (R3), but for the place.
func mustNotRead(t *testing.T, s string, place int, want api.Errno) {
	t.Helper()
	if l, at, e := Read(s); len(l) != 0 || at != place || e != want {
		t.Errorf("Read(%q) = %v, %d, %d, want the place %d and %d", s, l, at, e, place, want)
	}
}

// P4.1: Put, of canonical words and others.
func TestPutIsTheForm(t *testing.T) {
	for _, l := range someRows(slices.Concat(goodWords(), badWords())) {
		if got := Put(l...); !bytes.Equal(got, formOf(l...)) {
			t.Fatalf("Put(%v) = %x, want %x", l, got, formOf(l...))
		}
	}
}

func TestPutAtEdges(t *testing.T) {
	for _, c := range []struct {
		l    []uint64
		want string
	}{
		{nil, ""},
		{[]uint64{}, ""},
		{[]uint64{0}, "\x00\x00\x00\x00\x00\x00\x00\x00"},
		{[]uint64{1}, "\x01\x00\x00\x00\x00\x00\x00\x00"},
		{[]uint64{1 << 56}, "\x00\x00\x00\x00\x00\x00\x00\x01"},
		{[]uint64{0x0807060504030201}, "\x01\x02\x03\x04\x05\x06\x07\x08"},
		{[]uint64{prime - 1}, "\x00\x00\x00\x00\xff\xff\xff\xff"},
		{[]uint64{prime}, "\x01\x00\x00\x00\xff\xff\xff\xff"},
		{[]uint64{top, 2}, "\xff\xff\xff\xff\xff\xff\xff\xff\x02\x00\x00\x00\x00\x00\x00\x00"},
	} {
		if got := Put(c.l...); string(got) != c.want {
			t.Errorf("Put(%v) = %x, want %x", c.l, got, c.want)
		}
	}
}

// P4.1: Take.
func TestTakeIsTheRow(t *testing.T) {
	for _, l := range someRows(goodWords()) {
		mustTake(t, formOf(l...), l)
	}
	mustTake(t, nil, nil)
	mustTake(t, []byte{}, nil)
	mustTake(t, make([]byte, 8), []uint64{0})
	mustTake(t, make([]byte, 24), []uint64{0, 0, 0})
	mustTake(t, []byte("\x01\x02\x03\x04\x05\x06\x07\x08\x00\x00\x00\x00\xff\xff\xff\xff"), []uint64{0x0807060504030201, prime - 1})
}

// P4.1: a length that is no multiple of 8.
func TestTakeOfAFormThatIsShort(t *testing.T) {
	form := formOf(1, 2, prime-1, 0)
	for n := range len(form) {
		if n%8 != 0 {
			mustNotTake(t, form[:n], n-n%8, api.ErrShort)
		}
	}
	mustNotTake(t, []byte{0xff}, 0, api.ErrShort)
	mustNotTake(t, bytes.Repeat([]byte{0xff}, 7), 0, api.ErrShort)
}

// P4.1: the first word that isn't canonical, at the first place, the last one and between.
func TestTakeOfAWordThatIsNone(t *testing.T) {
	for _, bad := range badWords() {
		mustNotTake(t, formOf(bad), 0, api.ErrWord)
		for i := range 5 {
			l := []uint64{0, prime - 1, 3, 4, 5}
			l[i] = bad
			mustNotTake(t, formOf(l...), 8*i, api.ErrWord)
		}
		mustNotTake(t, formOf(1, 2, bad, prime, 4, top), 16, api.ErrWord)
	}
}

// P4.1 and R2: the length is looked at ahead of the words.
func TestTakeTellsShortFirst(t *testing.T) {
	for n := 1; n < 8; n++ {
		mustNotTake(t, formOf(top, 1, prime)[:16+n], 16, api.ErrShort)
	}
}

// P4.2: Word and Set, at each place that there is, of canonical words and others, with bytes left over or not.
func TestWordAndSetAtEachPlace(t *testing.T) {
	l := []uint64{7, prime, top, 0, prime - 1}
	for over := range 8 {
		before := append(formOf(l...), bytes.Repeat([]byte{0xa5}, over)...)
		for i := range l {
			b := slices.Clone(before)
			if w, e := Word(b, i); w != l[i] || e != api.OK {
				t.Errorf("Word(%x, %d) = %d, %d, want %d", b, i, w, e, l[i])
			}
			for _, w := range slices.Concat(goodWords(), badWords()) {
				want := slices.Concat(before[:8*i], formOf(w), before[8*i+8:])
				if e := Set(b, i, w); e != api.OK || !bytes.Equal(b, want) {
					t.Fatalf("Set(_, %d, %d): %d and %x, want %x", i, w, e, b, want)
				}
				if got, e := Word(b, i); got != w || e != api.OK {
					t.Fatalf("Word(_, %d) = %d, %d behind Set of %d", i, got, e, w)
				}
			}
		}
	}
}

// P4.2, R3 and R5: places that b hasn't all of, and b is then as it was. (Some are such that 8 times i would wrap round to a place that there is.)
func TestWordAndSetOutside(t *testing.T) {
	for n := range 26 {
		before := bytes.Repeat([]byte{0x5a}, n)
		whole := n / 8
		for _, i := range []int{
			-1, -2, -n, -1 << 61, -1<<61 + 1, -1 << 62, math.MinInt, math.MinInt + 1,
			whole, whole + 1, n, n + 1, 1 << 28, 1 << 29, 1 << 32, 1 << 60, 1<<61 - 1, 1 << 61, 1<<61 + 1, 1 << 62, math.MaxInt - 1, math.MaxInt,
		} {
			if i >= 0 && i < whole {
				continue
			}
			b := slices.Clone(before)
			if w, e := Word(b, i); w != 0 || e != api.ErrRange {
				t.Errorf("Word of %d bytes at %d = %d, %d", n, i, w, e)
			}
			if e := Set(b, i, 0x0102030405060708); e != api.ErrRange || !bytes.Equal(b, before) {
				t.Errorf("Set into %d bytes at %d: %d and %x", n, i, e, b)
			}
		}
	}
	if w, e := Word(nil, 0); w != 0 || e != api.ErrRange {
		t.Errorf("Word(nil, 0) = %d, %d", w, e)
	}
	if e := Set(nil, 0, 1); e != api.ErrRange {
		t.Errorf("Set(nil, 0, 1) = %d", e)
	}
}

// P4.3: Text, of canonical words and others.
func TestTextIsDecimalDigits(t *testing.T) {
	for _, l := range someRows(slices.Concat(goodWords(), badWords())) {
		if got := Text(l...); got != textOf(l...) {
			t.Fatalf("Text(%v) = %q, want %q", l, got, textOf(l...))
		}
	}
}

func TestTextAtEdges(t *testing.T) {
	for _, c := range []struct {
		l    []uint64
		want string
	}{
		{nil, ""},
		{[]uint64{}, ""},
		{[]uint64{0}, "0"},
		{[]uint64{5, 0}, "5 0"},
		{[]uint64{0, 0, 0}, "0 0 0"},
		{[]uint64{10, 100}, "10 100"},
		{[]uint64{prime - 1, 1}, "18446744069414584320 1"},
		{[]uint64{prime}, "18446744069414584321"},
		{[]uint64{top}, "18446744073709551615"},
	} {
		if got := Text(c.l...); got != c.want {
			t.Errorf("Text(%v) = %q, want %q", c.l, got, c.want)
		}
	}
}

// P4.3: Read.
func TestReadIsTheRow(t *testing.T) {
	for _, l := range someRows(goodWords()) {
		mustRead(t, textOf(l...), l)
	}
	mustRead(t, "", nil)
	mustRead(t, "0", []uint64{0})
	mustRead(t, "5 0", []uint64{5, 0})
	mustRead(t, "0 0 10 0", []uint64{0, 0, 10, 0})
	mustRead(t, "18446744069414584320", []uint64{prime - 1})
	mustRead(t, "1 18446744069414584320", []uint64{1, prime - 1})
	mustRead(t, "10000000000000000000", []uint64{1e19})
}

// P4.3: no numeral stands where a word begins.
func TestReadOfALineThatIsNone(t *testing.T) {
	for _, c := range []struct {
		s  string
		at int
	}{
		{" ", 0}, {"  ", 0}, {" 1", 0}, {" 1 2", 0}, // no digit
		{"a", 0}, {"-1", 0}, {"+1", 0}, {"\x00", 0}, {"\xff", 0}, {"\n", 0}, {"/", 0}, {":", 0}, {"٣", 0}, {"１", 0},
		{"12 a", 3}, {"1 2 -3 4", 4}, {"1 +2", 2}, {"1 \t2", 2}, {"1 ٣", 2},
		{"00", 0}, {"01", 0}, {"007", 0}, {"1 00", 2}, {"1 02 3", 2}, {"0 0 0123", 4}, // a 0 in front of others
		{"0000000000000000000000000", 0}, {"018446744069414584321", 0},
		{"1  2", 2}, {"1 2  3", 4}, {"1   2", 2}, // two blanks
		{"1 ", 2}, {"1 2 ", 4}, {"0 ", 2}, {"1  ", 2}, // a blank at the end
		{"1a", 0}, {"1\t2", 0}, {"1\n", 0}, {"1,2", 0}, {"1.0", 0}, {"1_000", 0}, {"0x1", 0}, {"1e3", 0}, {"1\x00", 0}, {"1\u00a02", 0}, // another byte behind digits
		{"5 1a", 2}, {"5 12/ 7", 2}, {"5 12: 7", 2}, {"5 6 0a", 4}, {"1٣", 0},
		{"18446744069414584321a", 0}, {"1000000000000000000000a", 0}, {"7 1000000000000000000000\t", 2}, // ahead of how great it is
	} {
		mustNotRead(t, c.s, c.at, api.ErrLine)
	}
}

// P4.3: a numeral of more than 20 digits.
func TestReadOfANumeralThatIsTooLong(t *testing.T) {
	for n := 21; n < 60; n++ {
		s := "1" + strings.Repeat("0", n-1)
		mustNotRead(t, s, 0, api.ErrLarge)
		mustNotRead(t, s+" 1", 0, api.ErrLarge)
		mustNotRead(t, "10 "+s, 3, api.ErrLarge)
		mustNotRead(t, strings.Repeat("9", n), 0, api.ErrLarge)
	}
	mustNotRead(t, "100000000000000000000", 0, api.ErrLarge)
	mustNotRead(t, "18446744069414584321 ", 0, api.ErrWord)
	mustNotRead(t, "1"+strings.Repeat("0", 1<<20), 0, api.ErrLarge)
}

// P4.3: a numeral of at most 20 digits that isn't below P, beyond 64 bits too.
func TestReadOfANumeralThatIsNoWord(t *testing.T) {
	for _, s := range []string{
		"18446744069414584321", "18446744069414584322", "18446744073709551615",
		"18446744073709551616", "18446744073709551617", "18446744078000000000", "19000000000000000000", // 2^64 and on
		"20000000000000000000", "36893488147419103232", "36893488147419103233", "92233720368547758080", "99999999999999999999", // 2^65, and others that leave a small number of 64 bits
	} {
		mustNotRead(t, s, 0, api.ErrWord)
		mustNotRead(t, s+" 1", 0, api.ErrWord)
		mustNotRead(t, "5 "+s, 2, api.ErrWord)
		mustNotRead(t, "5 18446744069414584320 "+s, 23, api.ErrWord)
	}
	for _, w := range badWords() {
		mustNotRead(t, textOf(1, 2, w), 4, api.ErrWord)
	}
}

// P4.3: of several faults, the first one.
func TestReadTellsTheFirst(t *testing.T) {
	word, large := "18446744069414584321", "100000000000000000000"
	mustNotRead(t, "1 "+word+" "+large+" 00", 2, api.ErrWord)
	mustNotRead(t, "1 "+large+" "+word+" 00", 2, api.ErrLarge)
	mustNotRead(t, "1 00 "+word+" "+large, 2, api.ErrLine)
	mustNotRead(t, word+"  1", 0, api.ErrWord)
	mustNotRead(t, large+" ", 0, api.ErrLarge)
	mustNotRead(t, " "+word, 0, api.ErrLine)
	mustNotRead(t, word+" x "+large, 0, api.ErrWord)
	mustNotRead(t, "1 x y", 2, api.ErrLine)
	mustNotRead(t, word+" "+word, 0, api.ErrWord)
}

// readOf is what the document asks of Read, by a pattern and exact numbers: the row's words are what stands between blanks.
func readOf(s string) (l []uint64, at int, e api.Errno) {
	if s == "" {
		return nil, 0, api.OK
	}
	numeral := regexp.MustCompile(`\A(0|[1-9][0-9]*)\z`)
	for _, part := range strings.Split(s, " ") {
		switch n, _ := new(big.Int).SetString(part, 10); {
		case !numeral.MatchString(part):
			return nil, at, api.ErrLine
		case len(part) > 20:
			return nil, at, api.ErrLarge
		case n.Cmp(new(big.Int).SetUint64(prime)) >= 0:
			return nil, at, api.ErrWord
		default:
			l = append(l, n.Uint64())
		}
		at += len(part) + 1
	}
	return l, 0, api.OK
}

func asReadOf(t *testing.T, s string) {
	t.Helper()
	l, at, e := Read(s)
	if want, place, fault := readOf(s); !slices.Equal(l, want) || at != place || e != fault {
		t.Fatalf("Read(%q) = %v, %d, %d, want %v, %d, %d", s, l, at, e, want, place, fault)
	}
}

// P4.3: every text of a few pieces, in any order.
func TestReadOfEveryShortText(t *testing.T) {
	pieces := []string{"0", "1", "9", " ", "a", "18446744069414584320", "18446744069414584321", "9999999999"}
	texts := []string{""}
	for range 5 {
		var longer []string
		for _, s := range texts {
			asReadOf(t, s)
			for _, p := range pieces {
				longer = append(longer, s+p)
			}
		}
		texts = longer
	}
	for _, s := range texts {
		asReadOf(t, s)
	}
}

// P4.3: every byte, alone, behind digits, and where a word begins.
func TestReadOfEveryByte(t *testing.T) {
	for c := range 256 {
		b := string([]byte{byte(c)})
		for _, s := range []string{b, "1" + b, "12 3" + b + "4 5", "12 " + b, "12 " + b + "3", b + "1", "0" + b} {
			asReadOf(t, s)
		}
	}
}

// P4.4: Check.
func TestCheckTellsTheFirst(t *testing.T) {
	for _, l := range someRows(goodWords()) {
		if at, ok := Check(l); at != 0 || !ok {
			t.Fatalf("Check(%v) = %d, %v", l, at, ok)
		}
	}
	for _, bad := range badWords() {
		for _, c := range []struct {
			l  []uint64
			at int
		}{
			{[]uint64{bad}, 0},
			{[]uint64{bad, 1}, 0},
			{[]uint64{bad, prime}, 0},
			{[]uint64{0, prime - 1, bad}, 2},
			{[]uint64{0, bad, prime - 1, top}, 1},
		} {
			if at, ok := Check(c.l); at != c.at || ok {
				t.Errorf("Check(%v) = %d, %v, want the place %d", c.l, at, ok, c.at)
			}
		}
	}
}

// P4.4: canonical rows are taken from their form, and read from their text, as they were.
func TestRowsGoThereAndBack(t *testing.T) {
	for _, l := range someRows(goodWords()) {
		mustTake(t, Put(l...), l)
		mustRead(t, Text(l...), l)
		for i := range l {
			if w, e := Word(Put(l...), i); w != l[i] || e != api.OK {
				t.Errorf("Word(Put(%v), %d) = %d, %d", l, i, w, e)
			}
		}
	}
	long := slices.Repeat(goodWords(), 1000)
	if l, at, e := Take(Put(long...)); !slices.Equal(l, long) || at != 0 || e != api.OK {
		t.Errorf("a form of %d words: %d, %d, %d", len(long), len(l), at, e)
	}
	if l, at, e := Read(Text(long...)); !slices.Equal(l, long) || at != 0 || e != api.OK {
		t.Errorf("a text of %d words: %d, %d, %d", len(long), len(l), at, e)
	}
}

// P4.1 and P4.3: what is taken and read is nothing but that form and that text.
func TestFormsAndTextsGoThereAndBack(t *testing.T) {
	for _, l := range someRows(goodWords()) {
		if back, _, e := Take(formOf(l...)); e != api.OK || !bytes.Equal(Put(back...), formOf(l...)) {
			t.Errorf("the form of %v goes back to that of %v, %d", l, back, e)
		}
		if back, _, e := Read(textOf(l...)); e != api.OK || Text(back...) != textOf(l...) {
			t.Errorf("the text of %v goes back to that of %v, %d", l, back, e)
		}
	}
}

// R4: words stay as they are, what lies behind their length is neither read nor written, and answers are new.
func TestWordsStayAsTheyAre(t *testing.T) {
	memory := []uint64{1, prime - 1, top, prime}
	before := slices.Clone(memory)
	l := memory[:2]
	b := Put(l...)
	if s := Text(l...); !bytes.Equal(b, formOf(before[:2]...)) || s != "1 18446744069414584320" {
		t.Errorf("Put = %x, Text = %q", b, s)
	}
	if at, ok := Check(l); at != 0 || !ok {
		t.Errorf("Check = %d, %v", at, ok)
	}
	clear(b[:cap(b)])
	if !slices.Equal(memory, before) {
		t.Errorf("the words became %v", memory)
	}
	if again := Put(l...); !bytes.Equal(again, formOf(before[:2]...)) {
		t.Errorf("Put = %x behind a write into its answer", again)
	}
}

func TestBytesStayAsTheyAre(t *testing.T) {
	memory := formOf(1, 2, top, prime)
	before := slices.Clone(memory)
	for n := range 17 {
		Take(memory[:n])
	}
	l, at, e := Take(memory[:16])
	if !slices.Equal(l, []uint64{1, 2}) || at != 0 || e != api.OK {
		t.Fatalf("Take = %v, %d, %d", l, at, e)
	}
	clear(l[:cap(l)])
	if w, e := Word(memory[:16], 2); w != 0 || e != api.ErrRange {
		t.Errorf("Word behind the length = %d, %d", w, e)
	}
	if e := Set(memory[:20], 2, 9); e != api.ErrRange {
		t.Errorf("Set behind the length = %d", e)
	}
	if !bytes.Equal(memory, before) {
		t.Errorf("the bytes became %x", memory)
	}
	mustTake(t, memory[:16], []uint64{1, 2})
}

// P1: calls end and none panics, whatever bytes and numbers come together.
func TestAnyArgument(t *testing.T) {
	var b []byte
	w := uint64(7)
	for range 300 {
		w = w*6364136223846793005 + 1442695040888963407
		b = append(b, byte(w>>56))
		Take(b)
		Read(string(b))
		l := []uint64{w, w >> 1, ^w}
		Check(l)
		Put(l...)
		Text(l...)
		for _, i := range []int{math.MinInt, -1, 0, len(b) / 8, len(b), int(w), math.MaxInt} {
			Word(b, i)
			Set(slices.Clone(b), i, w)
		}
	}
}
