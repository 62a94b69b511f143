package disk_test

import (
	"bytes"
	"math"
	"slices"
	"testing"

	"prebend/api"
	"prebend/disk"
)

// full: a sector of a byte alone.
func full(c byte) []byte { return bytes.Repeat([]byte{c}, api.Sector) }

// halves: a sector whose first bytes, so many, are one byte, and the others another.
func halves(first byte, size int, rest byte) []byte {
	return append(full(first)[:size], full(rest)[size:]...)
}

// counting: a sector of which no two bytes are the same, nor those of two seeds at one place.
func counting(seed byte) []byte {
	b := make([]byte, api.Sector)
	for i := range b {
		b[i] = seed + byte(i)*5
	}
	return b
}

// is: a sector is just that.
func is(t *testing.T, d *disk.Disk, i int, want []byte) {
	t.Helper()
	if b, e := d.Read(i); e != api.OK || !bytes.Equal(b, want) {
		t.Errorf("sector %d is %v, %d; it should be %v", i, b, e, want)
	}
}

// write: a Write that is OK.
func write(t *testing.T, d *disk.Disk, i int, b []byte) {
	t.Helper()
	if e := d.Write(i, b); e != api.OK {
		t.Errorf("Write(%d) is %d", i, e)
	}
}

// flush: a Flush that is OK, behind which nothing is cached.
func flush(t *testing.T, d *disk.Disk) {
	t.Helper()
	if e := d.Flush(); e != api.OK || d.Cached() != 0 {
		t.Errorf("Flush is %d, with %d cached", e, d.Cached())
	}
}

// of: a disk whose sectors are for good a byte each: 200, 201, ...
func of(t *testing.T, sectors int) *disk.Disk {
	t.Helper()
	d := disk.New(sectors)
	for i := range sectors {
		write(t, d, i, full(byte(200+i)))
	}
	flush(t, d)
	return d
}

// P5.1: New has so many sectors, but not below 0 nor above 1024; all are 0, nothing is cached, and there is no fuse.
func TestNew(t *testing.T) {
	for _, c := range []struct{ sectors, want int }{
		{0, 0}, {1, 1}, {2, 2}, {31, 31}, {32, 32}, {33, 33}, {1023, 1023}, {1024, 1024}, {1025, 1024}, {65536, 1024}, {math.MaxInt, 1024},
		{-1, 0}, {-2, 0}, {-1024, 0}, {math.MinInt, 0},
	} {
		d := disk.New(c.sectors)
		if d.Size() != c.want || d.Cached() != 0 {
			t.Errorf("New(%d) has %d sectors, %d cached", c.sectors, d.Size(), d.Cached())
		}
		for i := range c.want {
			is(t, d, i, full(0))
		}
		for i := range c.want {
			write(t, d, i, full(7))
		}
		flush(t, d)
		if d.Size() != c.want {
			t.Error("the size changes")
		}
	}
}

// P5.1: there are sectors from 0 on, up to the size, and no others.
func TestNoSuchSector(t *testing.T) {
	for _, size := range []int{0, 1, 4, 1024} {
		d := disk.New(size)
		for _, i := range []int{math.MinInt, -1024, -2, -1, size, size + 1, 1024, 1 << 32, math.MaxInt} {
			if e := d.Write(i, full(1)); e != api.ErrArg {
				t.Errorf("Write(%d) of %d sectors is %d", i, size, e)
			}
			if b, e := d.Read(i); b != nil || e != api.ErrArg {
				t.Errorf("Read(%d) of %d sectors is %v, %d", i, size, b, e)
			}
		}
		if d.Cached() != 0 || d.Flush() != api.OK {
			t.Error("what was refused is cached")
		}
	}
}

// P5.1: a sector has 32 bytes: with others nothing is written.
func TestWriteOfOtherSizes(t *testing.T) {
	d := of(t, 2)
	for _, size := range []int{0, 1, 16, 31, 33, 64, 1024} {
		if e := d.Write(1, make([]byte, size)); e != api.ErrArg {
			t.Errorf("%d bytes: %d", size, e)
		}
	}
	if e := d.Write(1, nil); e != api.ErrArg {
		t.Error("nil:", e)
	}
	if e := d.Write(1, make([]byte, 31, 32)); e != api.ErrArg {
		t.Error("spare room counts:", e)
	}
	if d.Cached() != 0 {
		t.Error("what was refused is cached")
	}
	is(t, d, 0, full(200))
	is(t, d, 1, full(201))
}

// P5.1: a sector is what the last Write made it, cached or not; the others stay.
func TestRead(t *testing.T) {
	d := disk.New(4)
	write(t, d, 0, counting(1))
	write(t, d, 3, counting(2))
	is(t, d, 0, counting(1))
	is(t, d, 1, full(0))
	is(t, d, 2, full(0))
	is(t, d, 3, counting(2))
	write(t, d, 0, counting(3))
	is(t, d, 0, counting(3))
	flush(t, d)
	is(t, d, 0, counting(3))
	is(t, d, 3, counting(2))
	write(t, d, 3, counting(4))
	is(t, d, 0, counting(3))
	is(t, d, 3, counting(4))
	write(t, d, 3, full(0))
	is(t, d, 3, full(0))
}

// P5.1: Cached counts sectors, not Writes, and those too that were written as they are.
func TestCached(t *testing.T) {
	d := of(t, 5)
	for _, c := range []struct{ i, want int }{{2, 1}, {2, 1}, {0, 2}, {4, 3}, {2, 3}, {0, 3}, {1, 4}, {3, 5}, {3, 5}} {
		write(t, d, c.i, full(byte(200+c.i)))
		if d.Cached() != c.want {
			t.Errorf("behind Write(%d) %d are cached, not %d", c.i, d.Cached(), c.want)
		}
	}
	d.Read(1)
	d.Fuse(9)
	if d.Cached() != 5 {
		t.Error("Read or Fuse changes what is cached")
	}
	flush(t, d)
	flush(t, d)
	write(t, d, 3, full(1))
	if d.Cached() != 1 {
		t.Error("behind a Flush", d.Cached())
	}
}

// P5.1: behind a Flush each sector is for good what it is: a crash doesn't touch it.
func TestFlush(t *testing.T) {
	d := disk.New(3)
	write(t, d, 2, full(1))
	write(t, d, 0, full(2))
	write(t, d, 2, full(3))
	flush(t, d)
	d.Crash(0, 0, 0)
	is(t, d, 0, full(2))
	is(t, d, 1, full(0))
	is(t, d, 2, full(3))
	write(t, d, 0, full(4))
	d.Crash(0, -1, 0)
	is(t, d, 0, full(2))
}

// P5.1: a Flush is of all sectors that are cached, however many.
func TestFlushOfMany(t *testing.T) {
	for _, sectors := range []int{62, 63, 64, 65, 1024} {
		d := disk.New(sectors)
		for i := range sectors {
			write(t, d, i, counting(byte(i%255+1)))
		}
		flush(t, d)
		d.Crash(0, -1, 0)
		for i := range sectors {
			is(t, d, i, counting(byte(i%255+1)))
		}
	}
}

// P5.2: behind n more Writes and Flushes that were OK nothing is taken any more.
func TestFuse(t *testing.T) {
	for n := range 7 {
		d := of(t, 8)
		d.Fuse(n)
		for i := range n {
			if i%3 == 2 {
				flush(t, d)
			} else {
				write(t, d, i, full(byte(i)))
			}
		}
		was := d.Cached()
		for range 3 {
			if e := d.Write(7, full(99)); e != api.ErrDown {
				t.Errorf("a fuse of %d: Write is %d", n, e)
			}
			if e := d.Flush(); e != api.ErrDown {
				t.Errorf("a fuse of %d: Flush is %d", n, e)
			}
		}
		if d.Cached() != was {
			t.Error("what was refused changes what is cached")
		}
		for i := range n {
			if i%3 != 2 {
				is(t, d, i, full(byte(i)))
			}
		}
		is(t, d, 7, full(207))
		d.Crash(0, -1, 0)
		for i := n - n%3; i < n; i++ {
			is(t, d, i, full(byte(200+i)))
		}
	}
}

// P5.1, P5.2: what is refused, and Reads, do not count for a fuse; ErrArg is told ahead of ErrDown.
func TestWhatAFuseCounts(t *testing.T) {
	d := disk.New(2)
	d.Fuse(2)
	refused := func() {
		t.Helper()
		if d.Write(-1, full(1)) != api.ErrArg || d.Write(2, full(1)) != api.ErrArg || d.Write(0, full(1)[1:]) != api.ErrArg || d.Write(0, nil) != api.ErrArg {
			t.Error("wrong Writes are not ErrArg")
		}
		for i := range 2 {
			if _, e := d.Read(i); e != api.OK {
				t.Error("Read", e)
			}
		}
		if _, e := d.Read(2); e != api.ErrArg {
			t.Error("Read", e)
		}
	}
	refused()
	write(t, d, 1, full(1))
	refused()
	flush(t, d)
	refused()
	if d.Write(1, full(2)) != api.ErrDown || d.Flush() != api.ErrDown {
		t.Error("not burnt")
	}
	refused()
	is(t, d, 1, full(1))
}

// P5.2: a fuse takes the place of the one before it, burnt or not; below 0 there is none.
func TestFuseAgain(t *testing.T) {
	d := disk.New(1)
	left := func(n int) {
		t.Helper()
		for range n {
			write(t, d, 0, full(1))
		}
		if d.Flush() != api.ErrDown || d.Write(0, full(2)) != api.ErrDown {
			t.Error("not burnt")
		}
	}
	none := func() {
		t.Helper()
		for range 50 {
			write(t, d, 0, full(3))
			flush(t, d)
		}
	}
	d.Fuse(5)
	d.Fuse(2)
	left(2)
	d.Fuse(3)
	left(3)
	d.Fuse(0)
	left(0)
	d.Fuse(1)
	d.Fuse(4)
	left(4)
	for _, n := range []int{-1, -2, -1 << 40, math.MinInt} {
		d.Fuse(n)
		none()
		d.Fuse(1)
		d.Fuse(n)
		none()
		d.Fuse(0)
	}
	d.Fuse(math.MaxInt)
	none()
}

// P5.2: the chapter's example.
func TestExample(t *testing.T) {
	d := disk.New(4)
	write(t, d, 3, counting(1))
	write(t, d, 1, counting(2))
	d.Crash(2, 5, 0)
	is(t, d, 1, counting(2))
	is(t, d, 3, full(0))
	is(t, d, 0, full(0))
	is(t, d, 2, full(0))
}

// P5.2: which bits are kept, by the numbers of the cached sectors; behind it all is for good.
func TestCrashKeeps(t *testing.T) {
	const sectors = 5
	order := []int{3, 0, 4, 1} // 2 isn't cached
	for keep := range 1 << len(order) {
		for _, high := range []int{0, 1 << 4, 1 << 61, 1 << 62, math.MinInt, -1 << 4} {
			d := of(t, sectors)
			want := make([][]byte, sectors)
			for i := range want {
				want[i] = full(byte(200 + i))
			}
			for number, i := range order {
				write(t, d, i, counting(byte(i)))
				if keep>>number&1 == 1 {
					want[i] = counting(byte(i))
				}
			}
			d.Crash(keep|high, -1, 8)
			for range 2 {
				if d.Cached() != 0 {
					t.Error("cached behind a crash:", d.Cached())
				}
				for i := range want {
					is(t, d, i, want[i])
				}
				d.Crash(-1, 0, 8)
				d.Crash(0, 0, 8)
			}
		}
	}
}

// P5.2: the order is that of the first Write since the last Flush; what is kept is the last Write.
func TestCrashOrder(t *testing.T) {
	fresh := func() *disk.Disk {
		d := of(t, 4)
		write(t, d, 0, full(1))
		write(t, d, 1, full(2))
		flush(t, d)
		write(t, d, 2, full(3))
		write(t, d, 1, full(4))
		write(t, d, 2, full(5))
		write(t, d, 3, full(6))
		write(t, d, 1, full(7))
		return d
	}
	for number, c := range []struct {
		i    int
		want []byte
	}{{2, full(5)}, {1, full(7)}, {3, full(6)}} {
		d := fresh()
		d.Crash(1<<number, -1, 0)
		for i, lost := range [][]byte{full(1), full(2), full(202), full(203)} {
			if i == c.i {
				lost = c.want
			}
			is(t, d, i, lost)
		}
	}
}

// P5.2: a crash, like a Flush, begins the order anew; a Flush that was refused, or a Write that was, doesn't.
func TestOrderBeginsAnew(t *testing.T) {
	d := of(t, 3)
	write(t, d, 0, full(1))
	write(t, d, 1, full(2))
	d.Crash(0, -1, 0)
	write(t, d, 1, full(3))
	write(t, d, 0, full(4))
	d.Crash(1, -1, 0)
	is(t, d, 0, full(200))
	is(t, d, 1, full(3))

	d = of(t, 3)
	write(t, d, 0, full(1))
	d.Fuse(0)
	if d.Flush() != api.ErrDown || d.Write(2, full(9)) != api.ErrDown {
		t.Error("not burnt")
	}
	d.Fuse(-1)
	write(t, d, 1, full(2))
	write(t, d, 0, full(3))
	if d.Cached() != 2 {
		t.Error(d.Cached())
	}
	d.Crash(1, -1, 0)
	is(t, d, 0, full(3))
	is(t, d, 1, full(201))
	is(t, d, 2, full(202))
}

// P5.2: the torn sector has its first bytes as they were written, whatever its bit in keep.
func TestCrashTears(t *testing.T) {
	for _, c := range []struct{ cut, want int }{
		{math.MinInt, 0}, {-32, 0}, {-1, 0}, {0, 0}, {1, 1}, {2, 2}, {15, 15}, {16, 16}, {31, 31}, {32, 32}, {33, 32}, {64, 32}, {256, 32}, {1 << 32, 32}, {math.MaxInt, 32},
	} {
		for torn, i := range []int{2, 0, 1} {
			for _, keep := range []int{0, 1 << torn, 7, 7 &^ (1 << torn), -1} {
				d := of(t, 4)
				for _, j := range []int{2, 0, 1} {
					write(t, d, j, full(byte(j)))
				}
				d.Crash(keep, torn, c.cut)
				for number, j := range []int{2, 0, 1} {
					want := full(byte(200 + j))
					if keep>>number&1 == 1 {
						want = full(byte(j))
					}
					if j == i {
						want = halves(byte(j), c.want, byte(200+j))
					}
					is(t, d, j, want)
				}
				is(t, d, 3, full(203))
				if d.Cached() != 0 {
					t.Error(d.Cached())
				}
				d.Crash(0, torn, 32-c.cut)
				is(t, d, i, halves(byte(i), c.want, byte(200+i)))
			}
		}
	}
}

// P5.2: what is torn is the last Write, and behind it what was for good, not what was written between.
func TestTearsTheLastWrite(t *testing.T) {
	d := of(t, 1)
	write(t, d, 0, full(1))
	write(t, d, 0, full(2))
	d.Crash(1, 0, 9)
	is(t, d, 0, halves(2, 9, 200))
	write(t, d, 0, full(3))
	d.Crash(1, 0, 4)
	is(t, d, 0, append(full(3)[:4], halves(2, 9, 200)[4:]...))
}

// P5.2: none is torn, if no cached sector has that number.
func TestTearsNone(t *testing.T) {
	for _, torn := range []int{math.MinInt, -64, -2, -1, 2, 3, 62, 1 << 32, math.MaxInt} {
		d := of(t, 3)
		write(t, d, 2, full(2))
		write(t, d, 1, full(1))
		d.Crash(1, torn, 8)
		is(t, d, 0, full(200))
		is(t, d, 1, full(201))
		is(t, d, 2, full(2))
	}
}

// P5.2: only bits 0 to 61 keep anything, but any sector may be torn.
func TestCrashOfMany(t *testing.T) {
	const sectors = 1024
	for _, keep := range []int{0, 1, 1 << 61, 1 << 62, math.MinInt, math.MaxInt, -1, 1<<62 - 1, -1 << 61, 0x2AAAAAAAAAAAAAAA, -0x2AAAAAAAAAAAAAAA} {
		for _, torn := range []int{-1, 0, 61, 62, 63, 64, 125, 126, 128, 1023, 1024} {
			d := disk.New(sectors)
			for number := range sectors {
				write(t, d, sectors-1-number, full(byte(number%255+1)))
			}
			if d.Cached() != sectors {
				t.Fatal(d.Cached())
			}
			d.Crash(keep, torn, 5)
			for number := range sectors {
				want := full(0)
				if number <= 61 && uint64(keep)&(1<<number) != 0 {
					want = full(byte(number%255 + 1))
				}
				if number == torn {
					want = halves(byte(number%255+1), 5, 0)
				}
				is(t, d, sectors-1-number, want)
			}
		}
	}
}

// P5.2: behind a crash there is no fuse, burnt or not.
func TestCrashTakesTheFuse(t *testing.T) {
	for n := range 3 {
		d := disk.New(1)
		d.Fuse(n)
		d.Crash(0, -1, 0)
		for range 9 {
			write(t, d, 0, full(1))
			flush(t, d)
		}
	}
	d := of(t, 2)
	d.Fuse(1)
	write(t, d, 1, full(1))
	if d.Flush() != api.ErrDown {
		t.Error("not burnt")
	}
	d.Crash(1, -1, 0)
	is(t, d, 1, full(1))
	write(t, d, 0, full(2))
	flush(t, d)
	is(t, d, 0, full(2))
}

// P5.2: a crash with nothing cached changes no sector.
func TestCrashOfNothing(t *testing.T) {
	d := of(t, 2)
	for _, torn := range []int{-1, 0, 1} {
		d.Crash(-1, torn, 8)
		d.Crash(0, torn, 8)
		is(t, d, 0, full(200))
		is(t, d, 1, full(201))
	}
}

// P5.1, P5.2: calls of a nil *Disk.
func TestNil(t *testing.T) {
	var none *disk.Disk
	for range 2 {
		for _, i := range []int{math.MinInt, -1, 0, 1, math.MaxInt} {
			if e := none.Write(i, full(1)); e != api.ErrArg {
				t.Error("Write", e)
			}
			if b, e := none.Read(i); b != nil || e != api.ErrArg {
				t.Error("Read", b, e)
			}
			none.Fuse(i)
			none.Crash(i, i, i)
		}
		if none.Size() != 0 || none.Cached() != 0 || none.Flush() != api.ErrArg || none.Write(0, nil) != api.ErrArg {
			t.Error("nil")
		}
	}
}

// P5.1: a disk of no sectors is one all the same, with a fuse.
func TestNoSectors(t *testing.T) {
	d := disk.New(0)
	d.Crash(-1, 0, 32)
	flush(t, d)
	d.Fuse(1)
	flush(t, d)
	if d.Flush() != api.ErrDown || d.Write(0, full(1)) != api.ErrArg {
		t.Error("a burnt fuse")
	}
	d.Crash(0, 0, 0)
	flush(t, d)
}

// R4: what is handed in is neither changed nor kept.
func TestWriteKeepsNoBytes(t *testing.T) {
	d := disk.New(2)
	whole := append(counting(1), counting(100)...)
	kept := slices.Clone(whole)
	write(t, d, 0, whole[:32])
	flush(t, d)
	write(t, d, 1, whole[:32])
	write(t, d, 1, whole[16:48])
	d.Read(1)
	d.Crash(1, 0, 7)
	write(t, d, 1, whole[8:40])
	if !bytes.Equal(whole, kept) {
		t.Error("changed")
	}
	for i := range whole {
		whole[i] = 255
	}
	is(t, d, 0, kept[:32])
	is(t, d, 1, kept[8:40])
}

// R4: what is read is the caller's: changed, spare room too, it changes neither the disk nor what was read besides.
func TestReadSharesNothing(t *testing.T) {
	d := disk.New(3)
	write(t, d, 0, counting(1))
	flush(t, d)
	write(t, d, 1, counting(2))
	for i, want := range [][]byte{counting(1), counting(2), full(0)} {
		first, _ := d.Read(i)
		second, _ := d.Read(i)
		spare := first[:cap(first)]
		for j := range spare {
			spare[j] = 255
		}
		if !bytes.Equal(second, want) {
			t.Error("two answers share memory")
		}
		for j := range 3 {
			is(t, d, j, [][]byte{counting(1), counting(2), full(0)}[j])
		}
	}
	flush(t, d)
	is(t, d, 1, counting(2))
}

// R4: an answer stays what it was, whatever is done with the disk.
func TestAnswersStay(t *testing.T) {
	d := of(t, 2)
	lasting, _ := d.Read(0)
	write(t, d, 1, full(1))
	fresh, _ := d.Read(1)
	write(t, d, 1, full(2))
	write(t, d, 0, full(3))
	flush(t, d)
	write(t, d, 0, full(4))
	d.Crash(1, -1, 0)
	if !bytes.Equal(lasting, full(200)) || !bytes.Equal(fresh, full(1)) {
		t.Error(lasting, fresh)
	}
}

// R5: disks have nothing in common.
func TestTwoDisks(t *testing.T) {
	one, other := disk.New(2), disk.New(2)
	write(t, one, 0, full(1))
	one.Fuse(0)
	if other.Cached() != 0 {
		t.Error("cached")
	}
	is(t, other, 0, full(0))
	write(t, other, 0, full(2))
	flush(t, other)
	is(t, one, 0, full(1))
	one.Crash(0, -1, 0)
	is(t, one, 0, full(0))
	is(t, other, 0, full(2))
}

// spelt is a disk by the chapter's words: what each sector is, what it is for good, and the cached ones in their order.
type spelt struct {
	now, good [][]byte
	order     []int
	fuse      int // below 0: none
}

func (s *spelt) refuses() bool {
	if s.fuse > 0 {
		s.fuse--
		return false
	}
	return s.fuse == 0
}

func (s *spelt) write(i int, b []byte) api.Errno {
	if i < 0 || i >= len(s.now) || len(b) != 32 {
		return api.ErrArg
	}
	if s.refuses() {
		return api.ErrDown
	}
	s.now[i] = slices.Clone(b)
	if !slices.Contains(s.order, i) {
		s.order = append(s.order, i)
	}
	return api.OK
}

func (s *spelt) flush() api.Errno {
	if s.refuses() {
		return api.ErrDown
	}
	s.good, s.order = slices.Clone(s.now), nil
	return api.OK
}

func (s *spelt) crash(keep, torn, cut int) {
	for number, i := range s.order {
		switch {
		case number == torn && cut >= 32:
			s.good[i] = s.now[i]
		case number == torn && cut > 0:
			s.good[i] = append(slices.Clone(s.now[i][:cut]), s.good[i][cut:]...)
		case number != torn && number <= 61 && uint64(keep)&(1<<number) != 0:
			s.good[i] = s.now[i]
		}
	}
	s.now, s.order, s.fuse = slices.Clone(s.good), nil, -1
}

// FuzzDisk: any calls answer as the chapter's words tell.
func FuzzDisk(f *testing.F) {
	f.Add(byte(4), []byte("\x00\x03a\x00\x01b\x05\x02\x05\x00"))
	f.Add(byte(3), []byte("\x00\x00a\x00\x02b\x00\x00c\x03\x05\x05\x01\x00\x07\x00\x02d\x05\xfe\x01\x20"))
	f.Add(byte(2), []byte("\x04\x02\x00\x01a\x03\x00\x01b\x03\x04\x00\x00\x00c\x05\x01\x00\x21\x00\x00d\x03"))
	f.Add(byte(90), []byte("\x06\x01\x05\xff\x3f\x05\x06\x02\x05\x40\x3e\x09"))
	f.Add(byte(0), []byte("\x00\x00a\x03\x04\x01\x03\x03"))
	f.Fuzz(func(t *testing.T, size byte, script []byte) {
		d, s := disk.New(int(size)), &spelt{fuse: -1}
		for range int(size) {
			s.now, s.good = append(s.now, full(0)), append(s.good, full(0))
		}
		next := func() int {
			if len(script) == 0 {
				return 0
			}
			n := int(int8(script[0]))
			script = script[1:]
			return n
		}
		for len(script) > 0 {
			switch call := next(); call {
			case 0, 1:
				i, seed := next(), next()
				b := append(counting(byte(seed)), byte(seed))[:32+call]
				if e, want := d.Write(i, b), s.write(i, b); e != want {
					t.Fatalf("Write(%d, %d bytes) is %d; it should be %d", i, len(b), e, want)
				}
			case 3:
				if e, want := d.Flush(), s.flush(); e != want {
					t.Fatalf("Flush is %d; it should be %d", e, want)
				}
			case 4:
				s.fuse = next()
				d.Fuse(s.fuse)
			case 5:
				keep, torn, cut := next()<<56>>1|next(), next(), next()
				d.Crash(keep, torn, cut)
				s.crash(keep, torn, cut)
			case 6: // every sector, the last one first
				seed := next()
				for i := len(s.now) - 1; i >= 0; i-- {
					b := counting(byte(seed + i))
					if e, want := d.Write(i, b), s.write(i, b); e != want {
						t.Fatalf("Write(%d) is %d; it should be %d", i, e, want)
					}
				}
			}
			if d.Cached() != len(s.order) || d.Size() != int(size) {
				t.Fatal(d.Cached(), len(s.order), d.Size())
			}
			for i, want := range s.now {
				is(t, d, i, want)
			}
		}
	})
}
