package disk_test

import (
	"bytes"
	"math"
	"slices"
	"testing"

	"abacist/api"
	"abacist/disk"
)

const (
	mostSectors = 1 << 20 // of a disk
	mostBytes   = 1 << 26 // of a disk's sectors together
)

// sizes are all that a sector may have.
var sizes = []int{32, 64, 128, 256, 512, 1024, 2048, 4096}

// badSectors are how many sectors no disk has.
var badSectors = []int{0, -1, -2, -4, -mostSectors, -1 << 31, -1 << 32, -1 << 62, math.MinInt + 1, math.MinInt, mostSectors + 1, mostSectors + 2, 2 * mostSectors, 1 << 31, 1 << 32, 1<<32 + 1, 1 << 58, 1 << 59, 1 << 62, math.MaxInt - 1, math.MaxInt}

// badSizes are sizes that no sector has; of some of them a product is that of a disk again, or 0, if it isn't exact.
var badSizes = []int{0, 1, 2, 8, 16, 31, 33, 34, 48, 63, 65, 96, 100, 192, 1000, 2047, 2049, 3072, 4095, 4097, 6144, 8192, 1 << 20, 1 << 26, 1 << 31, 1 << 32, 1<<32 + 32, 1<<32 + 64, 1 << 60, 1 << 62, math.MaxInt - 1, math.MaxInt, -1, -16, -32, -64, -4096, -1 << 32, -1 << 62, math.MinInt + 32, math.MinInt + 1, math.MinInt}

// farSectors are numbers of sectors that no disk has.
var farSectors = []int{-1, -2, -32, -mostSectors, -1 << 31, -1 << 32, -1<<32 + 1, -1 << 62, math.MinInt + 1, math.MinInt, mostSectors, mostSectors + 1, 1 << 31, 1 << 32, 1<<32 + 1, 1 << 62, math.MaxInt - 1, math.MaxInt}

// noFuses are fuses by which the power goes at no operation.
var noFuses = []int{0, -1, -2, -3, -100, -1 << 32, -1 << 62, math.MinInt + 1, math.MinInt}

// dice are numbers that a fixed rule mixes.
type dice uint64

// below is a number from 0 to n - 1.
func (d *dice) below(n int) int {
	*d = *d*6364136223846793005 + 1442695040888963407
	return int(uint64(*d) >> 33 % uint64(n))
}

// choices are up to n - 1 of them.
func (d *dice) choices(n int) []bool {
	l := make([]bool, d.below(n))
	for i := range l {
		l[i] = d.below(2) == 1
	}
	return l
}

// pattern is a sector's bytes by which it is told from others, and one half of it from the other.
func pattern(size, seed int) []byte {
	d := dice(seed)
	b := make([]byte, size)
	for i := range b {
		b[i] = byte(1 + d.below(255))
	}
	return b
}

// must is a disk of numbers of which there is one.
func must(t *testing.T, sectors, size int) *disk.Disk {
	t.Helper()
	d := disk.New(sectors, size)
	if d == nil {
		t.Fatalf("New(%d, %d) is nil", sectors, size)
	}
	return d
}

// account is a disk, and what the test itself keeps of it: each sector as it is safe, and, if it is in the cache, as it is there; how many operations there were since it was made, and behind how many the power goes, 0 being never.
type account struct {
	d            *disk.Disk
	size         int
	safe, cached [][]byte
	ever         []bool
	ops          api.Ops
	down         bool
	done, goes   uint64
}

// open is an account of a new disk.
func open(t *testing.T, sectors, size int) *account {
	t.Helper()
	k := &account{d: must(t, sectors, size), size: size, safe: make([][]byte, sectors), cached: make([][]byte, sectors), ever: make([]bool, sectors)}
	for i := range k.safe {
		k.safe[i] = make([]byte, size)
	}
	return k
}

// answer is what a Read, Write or Sync is to tell which has some other error, or api.OK.
func (k *account) answer(other api.Errno) api.Errno {
	if k.down {
		return api.ErrDown
	}
	if other != api.OK {
		return other
	}
	if k.done+1 == k.goes {
		k.down, k.goes = true, 0
		return api.ErrDown
	}
	k.done++
	return api.OK
}

// there tells whether there is such a sector.
func (k *account) there(i int) bool {
	return 0 <= i && i < len(k.safe)
}

// read reads a sector, and holds what is told against the account.
func (k *account) read(t *testing.T, i int) api.Errno {
	t.Helper()
	other := api.OK
	if !k.there(i) {
		other = api.ErrRange
	}
	want, see := k.answer(other), []byte(nil)
	if want == api.OK {
		k.ops.Reads++
		if see = k.safe[i]; k.cached[i] != nil {
			see = k.cached[i]
		}
	}
	b, e := k.d.Read(i)
	if e != want || !bytes.Equal(b, see) {
		t.Fatalf("Read(%d): %d, want %d; the bytes are right: %v", i, e, want, bytes.Equal(b, see))
	}
	return e
}

// write writes a sector, and holds what is told against the account.
func (k *account) write(t *testing.T, i int, b []byte) api.Errno {
	t.Helper()
	other := api.OK
	if len(b) != k.size {
		other = api.ErrOdd
	}
	if !k.there(i) {
		other = api.ErrRange
	}
	want := k.answer(other)
	if want == api.OK {
		k.ops.Writes++
		k.cached[i], k.ever[i] = bytes.Clone(b), true
	}
	if e := k.d.Write(i, b); e != want {
		t.Fatalf("Write(%d) of %d bytes: %d, want %d", i, len(b), e, want)
	}
	return want
}

// sync syncs, and holds what is told against the account.
func (k *account) sync(t *testing.T) api.Errno {
	t.Helper()
	want := k.answer(api.OK)
	if want == api.OK {
		k.ops.Syncs++
		for _, i := range k.dirty() {
			k.safe[i], k.cached[i] = k.cached[i], nil
		}
	}
	if e := k.d.Sync(); e != want {
		t.Fatalf("Sync: %d, want %d", e, want)
	}
	return want
}

// crash takes the power, and the fuse.
func (k *account) crash() {
	k.down, k.goes = true, 0
	k.d.Crash()
}

// fuse sets a fuse.
func (k *account) fuse(n int) {
	k.goes = 0
	if n > 0 {
		k.goes = k.done + uint64(n)
	}
	k.d.Fuse(n)
}

// boot boots with choices, and holds what is told against the account.
func (k *account) boot(t *testing.T, keep ...bool) api.Errno {
	t.Helper()
	want := api.ErrOrder
	if k.down {
		want, k.down = api.OK, false
		for n, i := range k.dirty() {
			if n < len(keep) && keep[n] {
				k.safe[i] = k.cached[i]
			}
			k.cached[i] = nil
		}
	}
	if e := k.d.Boot(keep); e != want {
		t.Fatalf("Boot: %d, want %d", e, want)
	}
	return want
}

// dirty is which sectors are in the cache, rising.
func (k *account) dirty() []int {
	var l []int
	for i, b := range k.cached {
		if b != nil {
			l = append(l, i)
		}
	}
	return l
}

// touched is which sectors were ever written, rising.
func (k *account) touched() []int {
	var l []int
	for i, ever := range k.ever {
		if ever {
			l = append(l, i)
		}
	}
	return l
}

// check holds all that can be asked without an operation against the account.
func (k *account) check(t *testing.T, name string) {
	t.Helper()
	d := k.d
	if d.Sectors() != len(k.safe) || d.Size() != k.size {
		t.Fatalf("%s: %d sectors of %d bytes, want %d of %d", name, d.Sectors(), d.Size(), len(k.safe), k.size)
	}
	if d.Down() != k.down {
		t.Fatalf("%s: Down is %v", name, d.Down())
	}
	if l := d.Dirty(); !slices.Equal(l, k.dirty()) {
		t.Fatalf("%s: Dirty is %d, want %d", name, l, k.dirty())
	}
	if l := d.Touched(); !slices.Equal(l, k.touched()) {
		t.Fatalf("%s: Touched is %d, want %d", name, l, k.touched())
	}
	if d.Count() != k.ops {
		t.Fatalf("%s: Count is %d, want %d", name, d.Count(), k.ops)
	}
}

// look holds every sector against the account, by reads that count.
func (k *account) look(t *testing.T, name string) {
	t.Helper()
	for i := range k.safe {
		k.read(t, i)
	}
	k.check(t, name)
}

// end takes the fuse out, boots without a choice, if the power is gone, and holds all against the account: what is in the cache, and then, behind one more crash, what is safe.
func (k *account) end(t *testing.T, name string) {
	t.Helper()
	k.fuse(0)
	if k.down {
		k.boot(t)
	}
	k.look(t, name)
	k.crash()
	k.boot(t)
	k.look(t, name+", what is safe")
}

// fill writes, syncs and writes, so that sectors 0 and 2 are safe, and 2, 3 and 5 are in the cache.
func fill(t *testing.T, size int) *account {
	t.Helper()
	k := open(t, 6, size)
	k.write(t, 0, pattern(size, 1))
	k.write(t, 2, pattern(size, 2))
	k.sync(t)
	k.write(t, 5, pattern(size, 3))
	k.write(t, 2, pattern(size, 4))
	k.write(t, 3, pattern(size, 5))
	k.check(t, "a disk that was filled")
	return k
}

// P15.1: New is a disk of noughts on which nothing was done, of each size, from 1 sector to as many as go, first and last.
func TestNew(t *testing.T) {
	for _, size := range sizes {
		most := min(mostSectors, mostBytes/size)
		for _, sectors := range []int{1, 2, 3, 5, 17, 1000, most - 1, most} {
			d := must(t, sectors, size)
			if d.Sectors() != sectors || d.Size() != size || d.Down() || len(d.Dirty()) != 0 || len(d.Touched()) != 0 || d.Count() != (api.Ops{}) {
				t.Fatalf("New(%d, %d) isn't new", sectors, size)
			}
			for _, i := range []int{0, sectors / 2, sectors - 1} {
				if b, e := d.Read(i); e != api.OK || !bytes.Equal(b, make([]byte, size)) {
					t.Fatalf("New(%d, %d), Read(%d): %d, %d bytes", sectors, size, i, e, len(b))
				}
			}
			for _, i := range []int{sectors, -1} {
				if b, e := d.Read(i); e != api.ErrRange || len(b) != 0 {
					t.Fatalf("New(%d, %d), Read(%d): %d, %d bytes", sectors, size, i, e, len(b))
				}
			}
		}
	}
}

// P15.1: of every size from below 0 to beyond the greatest one there is a disk, if it is a power of two from 32 to 4,096.
func TestNewOfEachSize(t *testing.T) {
	for size := -5000; size <= 20000; size++ {
		if d := disk.New(1, size); (d != nil) != slices.Contains(sizes, size) {
			t.Errorf("New(1, %d) is nil: %v", size, d == nil)
		}
	}
}

// P15.1 and R7: nil of numbers outside, down to the least int and up to the greatest one, each beside good ones and beside others.
func TestNewOfNoDisk(t *testing.T) {
	for _, sectors := range append([]int{1, 2, 1000, mostSectors}, badSectors...) {
		for _, size := range badSizes {
			if disk.New(sectors, size) != nil {
				t.Errorf("New(%d, %d) isn't nil", sectors, size)
			}
		}
	}
	for _, sectors := range badSectors {
		for _, size := range sizes {
			if disk.New(sectors, size) != nil {
				t.Errorf("New(%d, %d) isn't nil", sectors, size)
			}
		}
	}
}

// P15.1: just 2^26 bytes together are a disk, and one sector more is none; sectors of 32 bytes are ended by their number alone.
func TestNewOfMostBytes(t *testing.T) {
	for _, size := range sizes {
		most := min(mostSectors, mostBytes/size)
		must(t, most, size)
		for _, sectors := range []int{most + 1, most + 2, 2 * most, 2*most + 1, mostSectors + 1} {
			if disk.New(sectors, size) != nil {
				t.Errorf("New(%d, %d) isn't nil", sectors, size)
			}
		}
	}
	for _, size := range sizes[2:] {
		if disk.New(mostSectors, size) != nil {
			t.Errorf("New(2^20, %d) isn't nil", size)
		}
	}
}

// P15.1: every sector of a new disk is noughts; reads alone leave nothing in the cache.
func TestNoughts(t *testing.T) {
	for _, size := range sizes {
		k := open(t, 9, size)
		k.look(t, "a new disk")
		k.look(t, "a new disk once more")
	}
}

// P15.1: a sector that was written is read as it was written, of each size, and every other one stays.
func TestWrite(t *testing.T) {
	for _, size := range sizes {
		for i := range 5 {
			k := open(t, 5, size)
			k.write(t, i, pattern(size, i))
			k.check(t, "a write")
			k.look(t, "a write")
			k.write(t, i, pattern(size, i+10))
			k.write(t, 4-i, pattern(size, i+20))
			k.look(t, "a write over another one")
			k.write(t, i, make([]byte, size))
			k.look(t, "a write of noughts")
			k.end(t, "writes")
		}
	}
}

// P15.1: the first and the last sector of the greatest disks are two, and are written, synced, lost and read as all others.
func TestWriteOfGreatDisks(t *testing.T) {
	for _, size := range []int{32, 64, 4096} {
		most := min(mostSectors, mostBytes/size)
		d := must(t, most, size)
		first, last, lost := pattern(size, 1), pattern(size, 2), pattern(size, 3)
		for _, e := range []api.Errno{d.Write(most-1, last), d.Write(0, first), d.Sync(), d.Write(most-2, lost), d.Write(1, lost)} {
			if e != api.OK {
				t.Fatalf("%d sectors of %d bytes: %d", most, size, e)
			}
		}
		if l := d.Dirty(); !slices.Equal(l, []int{1, most - 2}) {
			t.Errorf("Dirty is %d", l)
		}
		d.Crash()
		if e := d.Boot([]bool{false, true}); e != api.OK {
			t.Errorf("Boot: %d", e)
		}
		for i, want := range map[int][]byte{0: first, 1: make([]byte, size), 2: make([]byte, size), most - 3: make([]byte, size), most - 2: lost, most - 1: last} {
			if b, e := d.Read(i); e != api.OK || !bytes.Equal(b, want) {
				t.Errorf("Read(%d): %d, or other bytes", i, e)
			}
		}
		if l := d.Touched(); !slices.Equal(l, []int{0, 1, most - 2, most - 1}) {
			t.Errorf("Touched is %d", l)
		}
	}
}

// P15.1: every sector of a disk of 2^20 is in the cache, and then it is safe.
func TestAllOfAGreatDisk(t *testing.T) {
	d := must(t, mostSectors, 64)
	b := make([]byte, 64)
	for i := range mostSectors {
		b[0], b[31], b[63] = byte(i), byte(i>>8), byte(i>>16)
		if e := d.Write(i, b); e != api.OK {
			t.Fatalf("Write(%d): %d", i, e)
		}
	}
	all := d.Dirty()
	if len(all) != mostSectors || !slices.IsSorted(all) || !slices.Equal(all, d.Touched()) {
		t.Fatal("not all are in the cache")
	}
	d.Sync()
	d.Crash()
	d.Boot(nil)
	for i := range mostSectors {
		got, e := d.Read(i)
		if e != api.OK || len(got) != 64 || got[0] != byte(i) || got[31] != byte(i>>8) || got[63] != byte(i>>16) {
			t.Fatalf("Read(%d): %d, %v", i, e, got)
		}
	}
	if d.Count() != (api.Ops{Reads: mostSectors, Writes: mostSectors, Syncs: 1}) {
		t.Error("another count")
	}
}

// P15.1, R3 and R5: a sector that isn't there is ErrRange, with no byte beside it, and nothing changes.
func TestNoSuchSector(t *testing.T) {
	for _, sectors := range []int{1, 2, 6, 1000} {
		k := open(t, sectors, 32)
		k.write(t, 0, pattern(32, 1))
		for _, i := range append([]int{sectors, sectors + 1, 2 * sectors, -sectors}, farSectors...) {
			if e := k.read(t, i); e != api.ErrRange {
				t.Errorf("Read(%d) of %d sectors: %d", i, sectors, e)
			}
			if e := k.write(t, i, pattern(32, 2)); e != api.ErrRange {
				t.Errorf("Write(%d) of %d sectors: %d", i, sectors, e)
			}
			k.check(t, "a sector that isn't there")
		}
		k.end(t, "sectors that aren't there")
	}
}

// P15.1, R2 and R5: bytes that aren't just the size are ErrOdd, a list that is nil too; ErrRange comes ahead of it; nothing changes.
func TestOddWrites(t *testing.T) {
	for _, size := range sizes {
		k := fill(t, size)
		for _, n := range []int{0, 1, 2, 31, size / 2, size - 1, size + 1, size + 32, 2 * size, 4095, 4097, 8192} {
			if n == size {
				continue
			}
			for i := range 6 {
				if e := k.write(t, i, pattern(n, 7)); e != api.ErrOdd {
					t.Errorf("Write of %d bytes, of the size %d: %d", n, size, e)
				}
			}
			for _, i := range []int{-1, 6, math.MaxInt, math.MinInt} {
				if e := k.write(t, i, pattern(n, 7)); e != api.ErrRange {
					t.Errorf("Write(%d) of %d bytes, of the size %d: %d", i, n, size, e)
				}
			}
		}
		if e := k.write(t, 1, nil); e != api.ErrOdd {
			t.Errorf("Write of nil: %d", e)
		}
		if e := k.write(t, 6, nil); e != api.ErrRange {
			t.Errorf("Write of nil, of no sector: %d", e)
		}
		k.check(t, "odd writes")
		k.end(t, "odd writes")
	}
}

// P15.1: a sync makes all safe that is in the cache, and nothing is in it then; one of an empty cache is OK too, and counted.
func TestSync(t *testing.T) {
	for _, size := range sizes {
		k := fill(t, size)
		k.sync(t)
		if len(k.d.Dirty()) != 0 {
			t.Errorf("Dirty behind Sync is %d", k.d.Dirty())
		}
		k.check(t, "Sync")
		k.sync(t)
		k.check(t, "Sync of an empty cache")
		k.end(t, "Sync")
	}
	k := open(t, 1, 32)
	k.sync(t)
	k.check(t, "Sync of a new disk")
	k.end(t, "Sync of a new disk")
}

// P15.1 and P15.3: of a sector that was written twice ahead of a sync, and once more behind it, the second is safe, and the third is read until the power goes, or is kept.
func TestSectorWrittenThrice(t *testing.T) {
	x, y, z := pattern(32, 1), pattern(32, 2), pattern(32, 3)
	for _, c := range []struct {
		keep []bool
		want []byte
	}{{nil, y}, {[]bool{false}, y}, {[]bool{false, true}, y}, {[]bool{true}, z}, {[]bool{true, false}, z}} {
		k := open(t, 2, 32)
		k.write(t, 1, x)
		k.write(t, 1, y)
		k.read(t, 1)
		k.sync(t)
		k.read(t, 1)
		k.write(t, 1, z)
		k.read(t, 1)
		k.crash()
		k.boot(t, c.keep...)
		if b, e := k.d.Read(1); e != api.OK || !bytes.Equal(b, c.want) {
			t.Errorf("choices %v: %d, or other bytes", c.keep, e)
		}
		k.ops.Reads++
		k.check(t, "a sector that was written thrice")
		k.end(t, "a sector that was written thrice")
	}
}

// P15.1 and P15.2, the chapter's example: Write, Crash, Boot of no choice is noughts.
func TestExample(t *testing.T) {
	for _, keep := range [][]bool{nil, {}} {
		d := must(t, 3, 32)
		if e := d.Write(1, pattern(32, 1)); e != api.OK {
			t.Errorf("Write: %d", e)
		}
		d.Crash()
		if e := d.Boot(keep); e != api.OK {
			t.Errorf("Boot: %d", e)
		}
		if b, e := d.Read(1); e != api.OK || !bytes.Equal(b, make([]byte, 32)) {
			t.Errorf("%d, %v", e, b)
		}
		if l := d.Touched(); !slices.Equal(l, []int{1}) {
			t.Errorf("Touched is %d", l)
		}
	}
}

// P15.2, R2, R3 and R5: behind a crash Read, Write and Sync answer ErrDown, ahead of all other errors, and nothing changes.
func TestDown(t *testing.T) {
	for _, size := range []int{32, 4096} {
		k := fill(t, size)
		k.crash()
		k.check(t, "Crash")
		for _, i := range append([]int{0, 1, 2, 5, 6}, farSectors...) {
			if b, e := k.d.Read(i); e != api.ErrDown || len(b) != 0 {
				t.Errorf("Read(%d) behind a crash: %d, %d bytes", i, e, len(b))
			}
			for _, n := range []int{size, 0, 1, size - 1, size + 1} {
				if e := k.d.Write(i, pattern(n, 8)); e != api.ErrDown {
					t.Errorf("Write(%d) of %d bytes behind a crash: %d", i, n, e)
				}
			}
			if e := k.d.Write(i, nil); e != api.ErrDown {
				t.Errorf("Write(%d) of nil behind a crash: %d", i, e)
			}
			if e := k.d.Sync(); e != api.ErrDown {
				t.Errorf("Sync behind a crash: %d", e)
			}
			k.check(t, "calls behind a crash")
		}
		k.boot(t, true, true, true)
		k.look(t, "Boot behind calls that were refused")
		k.end(t, "calls behind a crash")
	}
}

// P15.2: what is in the cache is there behind a crash, and behind one more, till Boot; then nothing is in it.
func TestDirty(t *testing.T) {
	k := fill(t, 64)
	for i := range 4 {
		if l := k.d.Dirty(); !slices.Equal(l, []int{2, 3, 5}) {
			t.Errorf("Dirty behind %d crashes is %d", i, l)
		}
		k.crash()
		k.check(t, "a crash")
	}
	k.boot(t, false, true, true)
	if l := k.d.Dirty(); len(l) != 0 {
		t.Errorf("Dirty behind Boot is %d", l)
	}
	k.look(t, "Boot")
	k.write(t, 4, make([]byte, 64)) // as it is safe
	k.write(t, 4, make([]byte, 64))
	if l := k.d.Dirty(); !slices.Equal(l, []int{4}) {
		t.Errorf("Dirty of a sector that was written as it is is %d", l)
	}
	k.end(t, "Dirty")
}

// P15.2: Boot while the power is there is ErrOrder, and leaves the cache and the fuse.
func TestBootWithPower(t *testing.T) {
	for _, keep := range [][]bool{nil, {}, {true}, {false, true, true}, {true, true, true, true}} {
		k := open(t, 1, 32)
		if e := k.boot(t, keep...); e != api.ErrOrder {
			t.Errorf("Boot of a new disk: %d", e)
		}
		k.check(t, "Boot of a new disk")
		k = fill(t, 32)
		k.fuse(2)
		if e := k.boot(t, keep...); e != api.ErrOrder {
			t.Errorf("Boot while the power is there: %d", e)
		}
		k.check(t, "Boot while the power is there")
		k.read(t, 2)
		if e := k.read(t, 2); e != api.ErrDown {
			t.Errorf("Boot while the power is there took the fuse: %d", e)
		}
		k.boot(t, keep...)
		if e := k.boot(t, true, true, true); e != api.ErrOrder {
			t.Errorf("Boot behind Boot: %d", e)
		}
		k.look(t, "Boot behind Boot")
		k.end(t, "Boot while the power is there")
	}
}

// P15.2: all choices of a boot, of none to two more than there are sectors in the cache, of none to four of these, over sectors that are safe as something else or as noughts.
func TestChoices(t *testing.T) {
	for dirty := range 1 << 4 {
		for n := range 7 {
			for choice := range 1 << n {
				k := open(t, 4, 32)
				k.write(t, 1, pattern(32, 1))
				k.write(t, 2, pattern(32, 2))
				k.sync(t)
				for i := 3; i >= 0; i-- { // falling, since a boot goes by rising numbers, however they were written
					if dirty>>i&1 == 1 {
						k.write(t, i, pattern(32, 10+i))
					}
				}
				var keep []bool
				for i := range n {
					keep = append(keep, choice>>i&1 == 1)
				}
				k.crash()
				k.boot(t, keep...)
				k.look(t, "a boot of choices")
				k.crash()
				k.boot(t, true, true, true, true)
				k.look(t, "a boot of choices, and what is safe then")
			}
		}
	}
}

// P15.2, by hand: of sectors 2, 3 and 5 in the cache the first and the third are kept.
func TestChoicesByHand(t *testing.T) {
	d := must(t, 6, 32)
	d.Write(3, pattern(32, 33))
	d.Write(5, pattern(32, 55))
	d.Sync()
	d.Write(5, pattern(32, 5))
	d.Write(3, pattern(32, 3))
	d.Write(2, pattern(32, 2))
	d.Crash()
	if e := d.Boot([]bool{true, false, true}); e != api.OK || d.Down() {
		t.Errorf("Boot: %d", e)
	}
	for i, want := range [][]byte{make([]byte, 32), make([]byte, 32), pattern(32, 2), pattern(32, 33), make([]byte, 32), pattern(32, 5)} {
		if b, e := d.Read(i); e != api.OK || !bytes.Equal(b, want) {
			t.Errorf("Read(%d): %d, or other bytes", i, e)
		}
	}
	if l := d.Touched(); !slices.Equal(l, []int{2, 3, 5}) {
		t.Errorf("Touched is %d", l)
	}
	if c := d.Count(); c != (api.Ops{Reads: 6, Writes: 5, Syncs: 1}) {
		t.Errorf("Count is %d", c)
	}
}

// operate does an operation: a Read, a Write or a Sync.
func (k *account) operate(t *testing.T, kind int) api.Errno {
	t.Helper()
	switch kind {
	case 0:
		return k.read(t, 2)
	case 1:
		return k.write(t, 1, pattern(k.size, 9))
	}
	return k.sync(t)
}

// P15.2: a fuse of n lets n - 1 operations go by, of whatever kinds, and the n-th answers ErrDown, does nothing and isn't counted.
func TestFuse(t *testing.T) {
	for n := 1; n <= 4; n++ {
		rows := 1
		for range n {
			rows *= 3
		}
		for row := range rows {
			k := fill(t, 32)
			k.fuse(n)
			k.check(t, "a fuse that was set")
			for i, rest := 1, row; i <= n; i, rest = i+1, rest/3 {
				if e := k.operate(t, rest%3); (e == api.ErrDown) != (i == n) {
					t.Fatalf("a fuse of %d, at operation %d: %d", n, i, e)
				}
				k.check(t, "an operation of a fuse")
			}
			if !k.d.Down() {
				t.Fatalf("a fuse of %d left the power", n)
			}
			k.boot(t, row%2 == 0, true)
			k.look(t, "a boot behind a fuse")
			k.end(t, "a fuse")
		}
	}
}

// P15.2, by hand: the power goes ahead of the operation, so that of a Write nothing is in the cache, and of a Sync nothing is safe.
func TestFuseIsAhead(t *testing.T) {
	d := must(t, 2, 32)
	x, y := pattern(32, 1), pattern(32, 2)
	d.Fuse(2)
	if e := d.Write(0, x); e != api.OK {
		t.Errorf("Write: %d", e)
	}
	if e := d.Sync(); e != api.ErrDown || !d.Down() || !slices.Equal(d.Dirty(), []int{0}) {
		t.Errorf("Sync: %d, Dirty %d", e, d.Dirty())
	}
	d.Boot(nil)
	d.Fuse(1)
	if e := d.Write(1, y); e != api.ErrDown || len(d.Dirty()) != 0 || !slices.Equal(d.Touched(), []int{0}) {
		t.Errorf("Write: %d, Dirty %d, Touched %d", e, d.Dirty(), d.Touched())
	}
	d.Boot([]bool{true, true})
	for i := range 2 {
		if b, e := d.Read(i); e != api.OK || !bytes.Equal(b, make([]byte, 32)) {
			t.Errorf("Read(%d): %d, %v", i, e, b)
		}
	}
	d.Fuse(1)
	if b, e := d.Read(0); e != api.ErrDown || len(b) != 0 {
		t.Errorf("Read: %d, %v", e, b)
	}
	if c := d.Count(); c != (api.Ops{Reads: 2, Writes: 1}) {
		t.Errorf("Count is %d", c)
	}
}

// P15.2: operations with another error aren't counted by a fuse, nor do they end it; nor do calls that are no operations.
func TestFuseCountsOperationsAlone(t *testing.T) {
	for n := 1; n <= 3; n++ {
		k := fill(t, 32)
		k.fuse(n)
		for i := 1; i <= n; i++ {
			for _, far := range farSectors {
				k.read(t, far)
				k.write(t, far, pattern(32, 1))
			}
			k.write(t, 0, pattern(31, 1))
			k.write(t, 0, nil)
			k.write(t, 6, pattern(33, 1))
			k.boot(t, true)
			k.check(t, "no operation")
			if e := k.operate(t, i%3); (e == api.ErrDown) != (i == n) {
				t.Fatalf("a fuse of %d, at operation %d: %d", n, i, e)
			}
		}
		k.end(t, "a fuse that counts operations")
	}
}

// P15.2: by a fuse below 1, down to the least int, the power goes at no operation, and it takes one out that was set; by one of very many it doesn't go soon.
func TestNoFuse(t *testing.T) {
	for _, n := range append([]int{100, 1 << 32, 1 << 62, math.MaxInt - 1, math.MaxInt}, noFuses...) {
		for _, was := range []int{0, 1, 2, 3} {
			k := fill(t, 32)
			k.fuse(was)
			k.fuse(n)
			for i := range 20 {
				if e := k.operate(t, i%3); e != api.OK {
					t.Fatalf("a fuse of %d, at operation %d: %d", n, i, e)
				}
				k.check(t, "no fuse")
			}
			k.end(t, "no fuse")
		}
	}
}

// P15.2: a fuse that is set anew counts from then on.
func TestFuseSetAnew(t *testing.T) {
	for first := 1; first <= 5; first++ {
		for passed := range first {
			for second := 1; second <= 5; second++ {
				k := fill(t, 32)
				k.fuse(first)
				for i := range passed {
					k.operate(t, i%3)
				}
				k.fuse(second)
				for i := 1; i <= second; i++ {
					if e := k.operate(t, i%3); (e == api.ErrDown) != (i == second) {
						t.Fatalf("fuses of %d and, behind %d operations, of %d, at operation %d: %d", first, passed, second, i, e)
					}
				}
				k.end(t, "a fuse that was set anew")
			}
		}
	}
}

// P15.2: a crash takes the fuse with it, and one that went is gone: behind Boot the power stays.
func TestCrashTakesTheFuse(t *testing.T) {
	for n := 1; n <= 4; n++ {
		for passed := range n {
			k := fill(t, 32)
			k.fuse(n)
			for i := range passed {
				k.operate(t, i)
			}
			k.crash()
			k.boot(t, true)
			for i := range 12 {
				if e := k.operate(t, i%3); e != api.OK {
					t.Fatalf("a fuse of %d that a crash took, at operation %d: %d", n, i, e)
				}
			}
			k.fuse(n)
			for i := range n {
				k.operate(t, i%3)
			}
			k.boot(t)
			for i := range 12 {
				if e := k.operate(t, i%3); e != api.OK {
					t.Fatalf("a fuse of %d that went, at operation %d: %d", n, i, e)
				}
			}
			k.end(t, "fuses that are gone")
		}
	}
}

// P15.2: Fuse is as ever behind a crash: what is set there counts the operations behind Boot, and none that the power's lack refused; one more crash takes it.
func TestFuseBehindACrash(t *testing.T) {
	for n := 1; n <= 3; n++ {
		k := fill(t, 32)
		k.crash()
		k.fuse(n)
		for i := range 6 {
			k.operate(t, i%3)
		}
		k.check(t, "a fuse behind a crash")
		k.boot(t, true, true)
		for i := 1; i <= n; i++ {
			if e := k.operate(t, i%3); (e == api.ErrDown) != (i == n) {
				t.Fatalf("a fuse of %d behind a crash, at operation %d: %d", n, i, e)
			}
		}
		k.fuse(n)
		k.crash()
		k.boot(t)
		for i := range 6 {
			if e := k.operate(t, i%3); e != api.OK {
				t.Fatalf("a fuse of %d that the second crash took, at operation %d: %d", n, i, e)
			}
		}
		k.end(t, "a fuse behind a crash")
	}
}

// P15.2: Count is how many answered OK, through crashes and boots; Touched is what was written, also what was lost or is as before.
func TestCountAndTouched(t *testing.T) {
	k := open(t, 8, 32)
	for round := range 4 {
		for range round {
			k.read(t, round)
		}
		k.write(t, 7-2*round, pattern(32, round))
		k.write(t, 8, pattern(32, round))
		k.write(t, 0, nil)
		k.read(t, -1)
		if round%2 == 0 {
			k.sync(t)
		}
		k.crash()
		k.read(t, 0)
		k.write(t, 6, pattern(32, round))
		k.sync(t)
		k.check(t, "a round")
		k.boot(t)
	}
	if c := k.d.Count(); c != (api.Ops{Reads: 6, Writes: 4, Syncs: 2}) {
		t.Errorf("Count is %d", c)
	}
	if l := k.d.Touched(); !slices.Equal(l, []int{1, 3, 5, 7}) {
		t.Errorf("Touched is %d", l)
	}
	k.end(t, "rounds")
}

// P15.3: what is safe stays through many crashes, whatever is written over it and lost, and a sector is one of both as a whole: never the first part of one and the rest of the other.
func TestNeverTorn(t *testing.T) {
	for _, size := range []int{32, 4096} {
		d := must(t, 4, size)
		safe := make([][]byte, 4)
		for i := range safe {
			safe[i] = pattern(size, 100+i)
			d.Write(i, safe[i])
		}
		d.Sync()
		mix := dice(size)
		for round := range 300 {
			written := slices.Clone(safe)
			for range mix.below(6) {
				i := mix.below(4)
				written[i] = pattern(size, 1000+8*round+i)
				d.Write(i, written[i])
			}
			d.Crash()
			d.Boot(mix.choices(6))
			for i := range safe {
				b, e := d.Read(i)
				if e != api.OK || !bytes.Equal(b, safe[i]) && !bytes.Equal(b, written[i]) {
					t.Fatalf("sector %d is neither as it was safe nor as it was written last: %d", i, e)
				}
				safe[i] = b
			}
		}
	}
}

// R4: what is handed in to Write and Boot is neither changed nor kept, and what lies behind its length isn't read.
func TestWhatIsHandedIn(t *testing.T) {
	k := open(t, 2, 32)
	memory := pattern(64, 1)
	was := bytes.Clone(memory)
	k.write(t, 0, memory[:32])
	k.write(t, 1, memory[16:48])
	if e := k.write(t, 1, memory[:31]); e != api.ErrOdd {
		t.Errorf("Write of 31 bytes with more behind them: %d", e)
	}
	k.look(t, "writes")
	if !bytes.Equal(memory, was) {
		t.Error("what was handed in is changed")
	}
	clear(memory)
	k.look(t, "writes of what was changed behind them")
	k.sync(t)
	for i := range memory {
		memory[i] = 0xff
	}
	k.look(t, "writes of what was changed behind a sync")
	k.write(t, 0, memory[:32])
	k.write(t, 1, memory[32:])
	k.crash()
	clear(memory)
	keep := []bool{true, true, true}
	k.boot(t, keep[:1]...)
	if !slices.Equal(keep, []bool{true, true, true}) {
		t.Error("choices are changed")
	}
	clear(keep)
	k.look(t, "a boot by choices that were changed behind it")
	k.end(t, "what was handed in")
}

// R4: what is answered is new: it may be written over and grown, and nothing else changes by it.
func TestWhatIsAnswered(t *testing.T) {
	k := fill(t, 32)
	for i := range 6 {
		one, _ := k.d.Read(i)
		other, _ := k.d.Read(i)
		k.ops.Reads += 2
		was := bytes.Clone(other)
		for j := range one {
			one[j] ^= 0xff
		}
		grown := append(one[:len(one):cap(one)], pattern(64, 1)...)
		if clear(grown); !bytes.Equal(other, was) {
			t.Errorf("two reads of sector %d share bytes", i)
		}
		k.look(t, "a sector that was read and written over")
	}
	for range 2 {
		dirty, touched := k.d.Dirty(), k.d.Touched()
		for _, l := range [][]int{dirty, touched} {
			clear(l)
			clear(append(l, 7, 7, 7)[:len(l)])
		}
		k.check(t, "lists that were written over")
		k.crash()
	}
	k.boot(t, true, false, true)
	k.end(t, "what was answered")
}

// R4: a read from ahead of a write, a sync or a boot stays as it was.
func TestReadsThatAreKept(t *testing.T) {
	k := fill(t, 32)
	var kept, was [][]byte
	keep := func() {
		for i := range 6 {
			b, _ := k.d.Read(i)
			k.ops.Reads++
			kept, was = append(kept, b), append(was, bytes.Clone(b))
		}
	}
	keep()
	for i := range 6 {
		k.write(t, i, pattern(32, 40+i))
	}
	keep()
	k.sync(t)
	keep()
	k.write(t, 1, pattern(32, 50))
	k.crash()
	k.boot(t, true)
	keep()
	for i := range kept {
		if !bytes.Equal(kept[i], was[i]) {
			t.Errorf("read %d changed", i)
		}
	}
}

// call does one of nine things.
func (k *account) call(t *testing.T, kind, seed int) {
	t.Helper()
	switch kind {
	case 0:
		k.write(t, 0, pattern(k.size, seed))
	case 1:
		k.write(t, 1, pattern(k.size, seed))
	case 2:
		k.read(t, 0)
	case 3:
		k.sync(t)
	case 4:
		k.crash()
	case 5:
		k.boot(t, true)
	case 6:
		k.boot(t, false, true)
	case 7:
		k.fuse(2)
	case 8:
		k.write(t, 2, pattern(k.size, seed))
	}
}

// P15.1 to P15.3: every row of five calls to a disk of two sectors.
func TestAllCallsOfSmallDisks(t *testing.T) {
	const kinds, length = 9, 5
	rows := 1
	for range length {
		rows *= kinds
	}
	for row := range rows {
		k := open(t, 2, 32)
		for i, rest := 0, row; i < length; i, rest = i+1, rest/kinds {
			k.call(t, rest%kinds, i)
			k.check(t, "a row of calls")
		}
		k.end(t, "a row of calls")
	}
}

// mixedCall does some call of some arguments.
func (k *account) mixedCall(t *testing.T, d *dice, seed int) {
	t.Helper()
	sector := d.below(len(k.safe)+2) - 1 // or one below the first, or behind the last
	switch d.below(20) {
	case 0, 1, 2, 3, 4, 5, 6:
		k.write(t, sector, pattern(k.size, seed))
	case 7:
		k.write(t, sector, pattern(d.below(2*k.size), seed))
	case 8, 9, 10, 11:
		k.read(t, sector)
	case 12, 13:
		k.sync(t)
	case 14:
		k.crash()
	case 15, 16, 17:
		k.boot(t, d.choices(len(k.safe)+2)...)
	case 18:
		k.fuse(d.below(30) - 5)
	case 19:
		k.read(t, farSectors[d.below(len(farSectors))])
	}
}

// P15.1 to P15.3: long rows of mixed calls, with crashes, fuses and boots between them.
func TestMixedCalls(t *testing.T) {
	for seed, sectors := range []int{1, 2, 3, 7, 20, 64} {
		for _, size := range []int{32, 128, 4096} {
			d := dice(seed*5000 + size)
			k := open(t, sectors, size)
			for i := range 2500 {
				k.mixedCall(t, &d, i)
				k.check(t, "mixed calls")
			}
			k.end(t, "mixed calls")
		}
	}
}

// R4: two disks side by side are two, whatever is done to either.
func TestDisksSideBySide(t *testing.T) {
	d := dice(3)
	one, other := open(t, 5, 64), open(t, 5, 64)
	for i := range 3000 {
		if d.below(2) == 0 {
			one.mixedCall(t, &d, i)
		} else {
			other.mixedCall(t, &d, i)
		}
		one.check(t, "two disks side by side, the one")
		other.check(t, "two disks side by side, the other one")
	}
	one.end(t, "two disks side by side, the one")
	other.end(t, "two disks side by side, the other one")
}

// R8: the same calls to like disks tell the same, each time, however many sectors a boot or a sync goes through.
func TestLikeDisks(t *testing.T) {
	var first [][]byte
	for range 20 {
		d := must(t, 100, 32)
		for i := range 100 {
			d.Write(i*37%100, pattern(32, i))
		}
		d.Sync()
		for i := range 60 {
			d.Write(i*53%100, pattern(32, 1000+i))
		}
		d.Crash()
		mix := dice(1)
		d.Boot(mix.choices(60))
		var told [][]byte
		for i := range 100 {
			b, _ := d.Read(i)
			told = append(told, b)
		}
		if first == nil {
			first = told
		}
		if !slices.EqualFunc(told, first, bytes.Equal) {
			t.Fatal("like disks have other sectors")
		}
	}
}

// P1: calls end and none panics, whatever numbers, bytes and choices come together.
func TestAnyArgument(t *testing.T) {
	numbers := slices.Concat(badSectors, badSizes, farSectors, noFuses, sizes, []int{1, 2, 3})
	for _, sectors := range numbers {
		for _, size := range numbers {
			d := disk.New(sectors, size)
			good := 0 < sectors && sectors <= mostSectors && slices.Contains(sizes, size) && sectors <= mostBytes/size
			if (d != nil) != good {
				t.Fatalf("New(%d, %d) is nil: %v", sectors, size, d == nil)
			}
		}
	}
	k := open(t, 3, 32)
	for _, n := range numbers {
		for _, length := range []int{0, 1, 31, 32, 33, 5000} {
			k.fuse(n)
			k.read(t, n)
			k.write(t, n, make([]byte, length))
			k.write(t, 1, make([]byte, length))
			k.sync(t)
			k.boot(t, make([]bool, length)...)
			k.crash()
			k.read(t, n)
			k.check(t, "any arguments")
			k.boot(t, make([]bool, length)...)
		}
	}
	k.end(t, "any arguments")
}

// The account that the tests keep is the document's own: it is held against what is written out by hand.
func TestTheTestsOwnAccount(t *testing.T) {
	k := open(t, 3, 32)
	if e := k.write(t, 2, pattern(32, 1)); e != api.OK || !slices.Equal(k.dirty(), []int{2}) || !slices.Equal(k.touched(), []int{2}) {
		t.Errorf("%d, %d, %d", e, k.dirty(), k.touched())
	}
	k.fuse(2)
	for i, c := range []struct{ got, want api.Errno }{{k.answer(api.ErrOdd), api.ErrOdd}, {k.answer(api.OK), api.OK}, {k.answer(api.ErrRange), api.ErrRange}, {k.answer(api.OK), api.ErrDown}, {k.answer(api.ErrOdd), api.ErrDown}} {
		if c.got != c.want {
			t.Errorf("answer %d: %d, not %d", i, c.got, c.want)
		}
	}
	k.d.Crash()
	k.boot(t, true)
	if k.down || len(k.dirty()) != 0 || !bytes.Equal(k.safe[2], pattern(32, 1)) || !bytes.Equal(k.safe[1], make([]byte, 32)) {
		t.Error("another account of a boot")
	}
	if a, b := pattern(32, 1), pattern(32, 2); len(a) != 32 || bytes.Equal(a, b) || bytes.Equal(a[:16], a[16:]) || slices.Contains(a, 0) {
		t.Error("patterns are alike")
	}
	d := dice(1)
	if d.below(1) != 0 || d.below(5) > 4 || len(d.choices(1)) != 0 || len(d.choices(9)) > 8 {
		t.Error("dice tell something else")
	}
}
