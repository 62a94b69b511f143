package journal_test

import (
	"bytes"
	"encoding/binary"
	"math"
	"math/rand"
	"slices"
	"strconv"
	"strings"
	"testing"

	"prebend/api"
	"prebend/disk"
	"prebend/frame"
	"prebend/journal"
)

const most = 1<<32 - 1

// is: a call answered that.
func is(t *testing.T, what string, e, want api.Errno) {
	t.Helper()
	if e != want {
		t.Errorf("%s is %d; it should be %d", what, e, want)
	}
}

// image: all sectors of a disk.
func image(d *disk.Disk) []byte {
	var s []byte
	for i := range d.Size() {
		b, _ := d.Read(i)
		s = append(s, b...)
	}
	return s
}

// pack: a record's sectors.
func pack(t *testing.T, epoch, seq int, b []byte) []byte {
	t.Helper()
	s, e := frame.Pack(epoch, seq, b)
	is(t, "Pack", e, api.OK)
	return s
}

// lay: sectors on a disk, from one on, as far as it has them.
func lay(d *disk.Disk, at int, s []byte) {
	for sector := range slices.Chunk(s, api.Sector) {
		d.Write(at, sector)
		at++
	}
}

// laid: what a disk would have, if it had that too, from a sector on.
func laid(s []byte, at int, more []byte) []byte {
	s = slices.Clone(s)
	copy(s[at*api.Sector:], more)
	return s
}

// has: a disk is just that.
func has(t *testing.T, what string, d *disk.Disk, want []byte) {
	t.Helper()
	if s := image(d); !bytes.Equal(s, want) {
		t.Errorf("%s: the disk is\n%x; it should be\n%x", what, s, want)
	}
}

// formatted: a new disk with a checkpoint.
func formatted(t *testing.T, sectors, slot int, state string) *disk.Disk {
	t.Helper()
	d := disk.New(sectors)
	is(t, "Format", journal.Format(d, slot, []byte(state)), api.OK)
	return d
}

// opened: an Open that is OK, whose records are just those.
func opened(t *testing.T, d *disk.Disk, slot int, state string, list ...string) *journal.Journal {
	t.Helper()
	j, s, l, e := journal.Open(d, slot)
	if e != api.OK || string(s) != state || len(l) != len(list) {
		t.Fatalf("Open is %q, %q, %d; it should be %q, %q", s, l, e, state, list)
	}
	for i := range l {
		if string(l[i]) != list[i] {
			t.Errorf("record %d is %q; it should be %q", i, l[i], list[i])
		}
	}
	return j
}

// begun: a Journal that is open, behind a checkpoint of nothing but "t", with epoch 2.
func begun(t *testing.T, sectors, slot int) (*disk.Disk, *journal.Journal) {
	t.Helper()
	d := formatted(t, sectors, slot, "s")
	j := opened(t, d, slot, "s")
	is(t, "Checkpoint", j.Checkpoint([]byte("t")), api.OK)
	return d, j
}

// tells: what a Journal says of itself.
func tells(t *testing.T, what string, j *journal.Journal, epoch, seq, room int) {
	t.Helper()
	if j.Epoch() != epoch || j.Seq() != seq || j.Room() != room {
		t.Errorf("%s: epoch %d, number %d, room %d; it should be %d, %d, %d", what, j.Epoch(), j.Seq(), j.Room(), epoch, seq, room)
	}
}

// lost: an Open that is refused, and tells nothing else.
func lost(t *testing.T, what string, d *disk.Disk, slot int, want api.Errno) {
	t.Helper()
	j, s, l, e := journal.Open(d, slot)
	if j != nil || s != nil || l != nil || e != want {
		t.Errorf("%s: Open is %v, %q, %q, %d; it should be %d", what, j, s, l, e, want)
	}
}

// P7.1, P7.2: a slot is at least 1, and two are less than the disk's sectors.
func TestSlots(t *testing.T) {
	slots := []int{math.MinInt, math.MinInt + 1, math.MinInt / 2, -1 << 32, -512, -2, -1, 1 << 32, 1<<32 + 1, 1 << 61, 1 << 62, 1<<62 + 1, 1<<63 - 2, math.MaxInt}
	for i := range 20 {
		slots = append(slots, i, 505+i, 1015+i)
	}
	for _, sectors := range []int{0, 1, 2, 3, 4, 5, 6, 7, 8, 1023, 1024} {
		for _, slot := range slots {
			d, want := disk.New(sectors), api.ErrArg
			if slot >= 1 && slot < 1024 && 2*slot < sectors {
				want = api.OK
			}
			if want == api.ErrArg {
				is(t, "Format of too much", journal.Format(d, slot, make([]byte, 65536)), want)
				lost(t, "no such slot", d, slot, want)
			} else {
				lost(t, "a slot", d, slot, api.ErrLost)
			}
			is(t, "Format of "+strconv.Itoa(sectors)+" with "+strconv.Itoa(slot), journal.Format(d, slot, []byte("s")), want)
			if want == api.OK {
				tells(t, "a slot", opened(t, d, slot, "s"), 1, 0, sectors-2*slot)
			} else if d.Cached() != 0 || len(bytes.Trim(image(d), "\x00")) > 0 {
				t.Error("a Format that is refused writes")
			}
		}
	}
	for _, slot := range append(slots, 2) {
		is(t, "Format of nil", journal.Format(nil, slot, make([]byte, 65536)), api.ErrArg)
		lost(t, "nil", nil, slot, api.ErrArg)
	}
}

// P7.1: a state's record has epoch 1 and number 0, lies in the first place, and lasts; one that is too long is refused.
func TestFormat(t *testing.T) {
	for slot := 1; slot < 6; slot++ {
		for size := range 24*slot + 30 {
			d, b := disk.New(2*slot+1), bytes.Repeat([]byte{7}, size)
			e := journal.Format(d, slot, b)
			if d.Cached() != 0 {
				t.Error("cached", d.Cached())
			}
			d.Crash(0, -1, 0)
			if size > 24*slot-6 {
				is(t, "too long", e, api.ErrFull)
				has(t, "too long", d, make([]byte, 32*(2*slot+1)))
				continue
			}
			is(t, "Format", e, api.OK)
			has(t, "Format", d, laid(make([]byte, 32*(2*slot+1)), 0, pack(t, 1, 0, b)))
			opened(t, d, slot, string(b))
		}
	}
	for _, size := range []int{65535, 65536, 65537, 1 << 17} {
		d, want := disk.New(1024), map[bool]api.Errno{true: api.ErrOver, false: api.ErrFull}[size > 65535]
		d.Fuse(0)
		is(t, "Format of "+strconv.Itoa(size), journal.Format(d, 511, make([]byte, size)), want)
	}
	is(t, "Format of the most", journal.Format(disk.New(1024), 511, make([]byte, 24*511-6)), api.OK)
}

// P7.1: a Format that the disk refuses anything of.
func TestFormatRefused(t *testing.T) {
	b := make([]byte, 50) // three sectors
	for n := range 8 {
		d := disk.New(9)
		d.Fuse(n)
		want := map[bool]api.Errno{true: api.ErrDown, false: api.OK}[n < 4]
		is(t, "Format with a fuse of "+strconv.Itoa(n), journal.Format(d, 3, b), want)
		d.Crash(0, -1, 0)
		if n < 4 {
			lost(t, "a Format that was refused", d, 3, api.ErrLost)
		} else {
			opened(t, d, 3, string(b))
		}
	}
}

// P7.2: a place's checkpoint lies in that place's sectors alone, and is none if it isn't whole.
func TestNoCheckpoint(t *testing.T) {
	d := disk.New(9)
	lay(d, 0, pack(t, 1, 0, make([]byte, 43))) // three sectors
	for slot := 1; slot < 3; slot++ {
		lost(t, "a checkpoint of more than a slot", d, slot, api.ErrLost)
	}
	opened(t, d, 3, string(make([]byte, 43)))
	opened(t, d, 4, string(make([]byte, 43)))
	d = disk.New(9)
	lay(d, 2, pack(t, 1, 0, []byte("s")))
	for slot, want := range map[int]api.Errno{1: api.ErrLost, 2: api.OK, 3: api.ErrLost, 4: api.ErrLost, 5: api.ErrArg} {
		if _, _, _, e := journal.Open(d, slot); e != want {
			t.Errorf("Open with a slot of %d is %d; it should be %d", slot, e, want)
		}
	}
	lay(d, 2, bytes.Repeat([]byte{1}, 32))
	lost(t, "no record", d, 2, api.ErrLost)
}

// P7.2: of both checkpoints that of the greater epoch is the disk's; of two as great the first place's.
func TestGreaterEpoch(t *testing.T) {
	epochs := []int{0, 1, 2, 255, 256, 1<<31 - 1, 1 << 31, most - 1, most}
	for _, first := range epochs {
		for _, second := range epochs {
			d := disk.New(7)
			lay(d, 0, pack(t, first, 20, []byte("first")))
			lay(d, 2, pack(t, second, 10, []byte("second")))
			if first >= second {
				tells(t, "the first", opened(t, d, 2, "first"), first, 20, 3)
			} else {
				tells(t, "the second", opened(t, d, 2, "second"), second, 10, 3)
			}
		}
	}
}

// P7.2: records have the checkpoint's epoch, and numbers that go on from its number by one, without a gap.
func TestRecords(t *testing.T) {
	long := strings.Repeat("long", 12) // three sectors
	for _, c := range []struct {
		epoch, seq int
		records    [][3]int // epoch, number, whether it is long
		want       int
	}{
		{1, 0, nil, 0},
		{1, 0, [][3]int{{1, 1, 0}}, 1},
		{1, 0, [][3]int{{1, 0, 0}, {1, 1, 0}}, 0},
		{1, 0, [][3]int{{1, 2, 0}, {1, 3, 0}}, 0},
		{1, 0, [][3]int{{2, 1, 0}}, 0},
		{2, 0, [][3]int{{1, 1, 0}}, 0},
		{0, 0, [][3]int{{0, 1, 1}, {0, 2, 0}, {0, 3, 1}}, 3},
		{3, 7, [][3]int{{3, 8, 0}, {3, 9, 1}, {3, 10, 0}, {3, 12, 0}}, 3},
		{3, 7, [][3]int{{3, 8, 0}, {3, 9, 1}, {3, 9, 0}, {3, 10, 0}}, 2},
		{3, 7, [][3]int{{3, 8, 0}, {2, 9, 1}, {3, 9, 0}}, 1},
		{3, 7, [][3]int{{3, 8, 1}, {4, 9, 0}, {3, 10, 0}}, 1},
		{3, 7, [][3]int{{3, 8, 1}, {3, 9, 1}, {3, 10, 1}, {3, 11, 0}}, 4},
		{3, 7, [][3]int{{3, 8, 1}, {3, 9, 1}, {3, 10, 1}, {3, 11, 1}}, 3}, // the last is cut off by the disk's end
		{most, most - 2, [][3]int{{most, most - 1, 0}, {most, most, 0}, {most, 0, 0}}, 2},
		{most, most, [][3]int{{most, 0, 0}, {most, 1, 0}}, 0},
	} {
		d, at, want := disk.New(14), 4, []string{}
		lay(d, 2, pack(t, c.epoch, c.seq, []byte("state")))
		room := 10
		for i, r := range c.records {
			b := strconv.Itoa(i)
			if r[2] == 1 {
				b += long
			}
			s := pack(t, r[0], r[1], []byte(b))
			lay(d, at, s)
			at += len(s) / 32
			if i < c.want {
				want, room = append(want, b), 14-at
			}
		}
		tells(t, "records", opened(t, d, 2, "state", want...), c.epoch, c.seq+c.want, room)
	}
}

// P7.2: the first record lies in the log's first sector, and others just behind.
func TestNoGap(t *testing.T) {
	d := disk.New(9)
	lay(d, 0, pack(t, 1, 0, []byte("s")))
	lay(d, 5, pack(t, 1, 1, []byte("a")))
	opened(t, d, 2, "s")
	lay(d, 4, pack(t, 1, 1, []byte("a")))
	lay(d, 5, make([]byte, 32))
	lay(d, 6, pack(t, 1, 2, []byte("b")))
	tells(t, "a gap", opened(t, d, 2, "s", "a"), 1, 1, 4)
}

// P7.2: a record of no bytes is one.
func TestEmptyRecords(t *testing.T) {
	d, j := begun(t, 12, 2)
	for i := range 8 {
		is(t, "Append", j.Append(nil), api.OK)
		if _, _, list, _ := journal.Open(d, 2); len(list) != i+1 {
			t.Error(i+1, "records:", len(list))
		}
	}
	is(t, "Append", j.Append(nil), api.ErrFull)
	opened(t, d, 2, "t", "", "", "", "", "", "", "", "")
	is(t, "Checkpoint", j.Checkpoint(nil), api.OK)
	tells(t, "a checkpoint of no bytes", opened(t, d, 2, ""), 3, 8, 8)
}

// P7.2: Open writes nothing, and asks nothing of the disk that a fuse would refuse.
func TestOpenWritesNothing(t *testing.T) {
	d, j := begun(t, 12, 2)
	is(t, "Append", j.Append([]byte("a")), api.OK)
	was, cached := image(d), d.Cached()
	d.Fuse(0)
	for range 3 {
		tells(t, "opened again", opened(t, d, 2, "t", "a"), 2, 1, 7)
	}
	if has(t, "Open", d, was); d.Cached() != cached {
		t.Error("cached:", d.Cached(), "and", cached, "ahead")
	}
	d.Crash(0, -1, 0)
	tells(t, "behind the crash", opened(t, d, 2, "t"), 2, 0, 8)
}

// P7.3: a Journal is closed, until a Checkpoint opens it.
func TestClosed(t *testing.T) {
	d := formatted(t, 12, 2, "s")
	was := image(d)
	for _, b := range [][]byte{nil, []byte("a"), make([]byte, 24*8), make([]byte, 65536)} {
		j := opened(t, d, 2, "s")
		is(t, "Append", j.Append(b), api.ErrState)
		is(t, "Commit", j.Commit(), api.ErrState)
		tells(t, "closed", j, 1, 0, 8)
	}
	j := opened(t, d, 2, "s")
	is(t, "Checkpoint of too much", j.Checkpoint(make([]byte, 43)), api.ErrFull)
	is(t, "Append", j.Append(nil), api.ErrState)
	is(t, "Checkpoint of far too much", j.Checkpoint(make([]byte, 65536)), api.ErrOver)
	is(t, "Commit", j.Commit(), api.ErrState)
	d.Fuse(0)
	is(t, "Append", j.Append(nil), api.ErrState)
	is(t, "Commit", j.Commit(), api.ErrState)
	d.Fuse(-1)
	if has(t, "closed", d, was); d.Cached() != 0 {
		t.Error("cached", d.Cached())
	}
	is(t, "Checkpoint", j.Checkpoint([]byte("t")), api.OK)
	is(t, "Append", j.Append(nil), api.OK)
	is(t, "Commit", j.Commit(), api.OK)
	is(t, "Append", opened(t, d, 2, "t", "").Append(nil), api.ErrState)
}

// P7.3: each checkpoint is written in the place that has not the disk's, with one more than the disk's last epoch, and lasts.
func TestCheckpointsInTurn(t *testing.T) {
	d := formatted(t, 12, 2, "s")
	j, want := opened(t, d, 2, "s"), laid(make([]byte, 12*32), 0, pack(t, 1, 0, []byte("s")))
	for i := range 12 {
		state := bytes.Repeat([]byte{byte(i)}, 3*i)
		is(t, "Checkpoint", j.Checkpoint(state), api.OK)
		want = laid(want, (i+1)%2*2, pack(t, i+2, 2*i, state))
		if has(t, "Checkpoint", d, want); d.Cached() != 0 {
			t.Error("cached", d.Cached())
		}
		tells(t, "Checkpoint", j, i+2, 2*i, 8)
		tells(t, "Checkpoint", opened(t, d, 2, string(state)), i+2, 2*i, 8)
		for k := range 2 {
			b := bytes.Repeat([]byte{byte(100 + i)}, 8*i)
			is(t, "Append", j.Append(b), api.OK)
			record := pack(t, i+2, 2*i+k+1, b)
			want = laid(want, 4+k*len(record)/32, record)
		}
		has(t, "Append", d, want)
		if i%3 == 0 {
			j = opened(t, d, 2, string(state), string(bytes.Repeat([]byte{byte(100 + i)}, 8*i)), string(bytes.Repeat([]byte{byte(100 + i)}, 8*i)))
		}
	}
}

// P7.3: the disk's last epoch is the greatest of all its sectors, whatever they are.
func TestLastEpoch(t *testing.T) {
	for at := range 12 {
		for _, epoch := range []int{0, 1, 2, 3, 255, 256, 0x01020304, 1<<31 - 1, 1 << 31, 0xFF000000, most - 1} {
			d := formatted(t, 12, 2, "s")
			j := opened(t, d, 2, "s")
			s := make([]byte, 32)
			copy(s[24:], binary.BigEndian.AppendUint32(nil, uint32(epoch)))
			for i, c := range s {
				if i < 24 || i >= 28 {
					s[i] = c ^ 255
				}
			}
			want, place := max(epoch, 1)+1, 2
			if at == 0 { // the first place has no checkpoint any more
				want, place = epoch+1, 0
			}
			lay(d, at, s)
			is(t, "Checkpoint", j.Checkpoint([]byte("t")), api.OK)
			tells(t, "Checkpoint", j, want, 0, 8)
			b, _ := d.Read(place)
			if !bytes.Equal(b, pack(t, want, 0, []byte("t"))) {
				t.Errorf("epoch %d in sector %d: sector %d is %x", epoch, at, place, b)
			}
			opened(t, d, 2, "t")
		}
	}
}

// P7.3: the place is the other one also where both have checkpoints of one epoch.
func TestPlaceOfSameEpochs(t *testing.T) {
	d := disk.New(5)
	lay(d, 0, pack(t, 4, 5, []byte("first")))
	lay(d, 2, pack(t, 4, 6, []byte("second")))
	j, was := opened(t, d, 2, "first"), image(d)
	is(t, "Checkpoint", j.Checkpoint([]byte("t")), api.OK)
	has(t, "Checkpoint", d, laid(was, 2, pack(t, 5, 5, []byte("t"))))
}

// P7.3: where there are no more epochs a Checkpoint is refused, also ahead of being too long; all else goes on.
func TestNoMoreEpochs(t *testing.T) {
	d, j := begun(t, 12, 2)
	lay(d, 11, bytes.Repeat([]byte{255}, 32))
	was := image(d)
	for _, size := range []int{0, 1, 42, 43, 1000, 65535, 65536} {
		is(t, "Checkpoint", j.Checkpoint(make([]byte, size)), api.ErrOver)
	}
	has(t, "Checkpoint", d, was)
	is(t, "Append", j.Append([]byte("a")), api.OK)
	is(t, "Commit", j.Commit(), api.OK)
	tells(t, "no more epochs", j, 2, 1, 7)
	lay(d, 11, make([]byte, 32))
	is(t, "Checkpoint", j.Checkpoint([]byte("u")), api.OK)
	tells(t, "more epochs", j, 3, 1, 8)
	lay(d, 11, pack(t, most-1, 0, nil))
	is(t, "Checkpoint", j.Checkpoint([]byte("v")), api.OK)
	tells(t, "the last epoch", j, most, 1, 8)
	is(t, "Checkpoint", j.Checkpoint([]byte("w")), api.ErrOver)
	opened(t, d, 2, "v")
}

// P7.3: a state that does not fit is refused; the Journal stays as it was.
func TestCheckpointRefused(t *testing.T) {
	for slot := 1; slot < 5; slot++ {
		d, j := begun(t, 2*slot+3, slot)
		is(t, "Append", j.Append([]byte("a")), api.OK)
		was := image(d)
		for size, want := range map[int]api.Errno{24*slot - 5: api.ErrFull, 24*slot + 18: api.ErrFull, 4000: api.ErrFull, 65535: api.ErrFull, 65536: api.ErrOver, 1 << 17: api.ErrOver} {
			is(t, "Checkpoint", j.Checkpoint(make([]byte, size)), want)
			d.Fuse(0)
			is(t, "Checkpoint", j.Checkpoint(make([]byte, size)), want)
			d.Fuse(-1)
		}
		if has(t, "Checkpoint", d, was); d.Cached() != 1 {
			t.Error("cached", d.Cached())
		}
		tells(t, "Checkpoint", j, 2, 1, 2)
		is(t, "Append", j.Append([]byte("b")), api.OK)
		is(t, "Checkpoint", j.Checkpoint(make([]byte, 24*slot-6)), api.OK)
		tells(t, "Checkpoint", j, 3, 2, 3)
		opened(t, d, slot, string(make([]byte, 24*slot-6)))
	}
}

// P7.3: records lie one behind the other, as long as there is room.
func TestAppend(t *testing.T) {
	for _, size := range []int{0, 1, 18, 19, 42, 43, 100} {
		d, j := begun(t, 12, 2)
		want, list, room := image(d), []string{}, 8
		for i := range 10 {
			b := bytes.Repeat([]byte{byte(i + 1)}, size)
			record := pack(t, 2, i+1, b)
			if len(record)/32 > room {
				is(t, "Append", j.Append(b), api.ErrFull)
				is(t, "Append", j.Append(make([]byte, 65535)), api.ErrFull)
				is(t, "Append", j.Append(make([]byte, 65536)), api.ErrOver)
				break
			}
			is(t, "Append", j.Append(b), api.OK)
			want = laid(want, 12-room, record)
			room -= len(record) / 32
			list = append(list, string(b))
			if has(t, "Append", d, want); d.Cached() != 8-room {
				t.Error("cached", d.Cached(), "of", 8-room)
			}
			tells(t, "Append", j, 2, i+1, room)
			tells(t, "Append", opened(t, d, 2, "t", list...), 2, i+1, room)
		}
		has(t, "Append", d, want)
		if room > 0 { // a smaller one still fits
			is(t, "Append", j.Append(make([]byte, 24*room-5)), api.ErrFull)
			is(t, "Append", j.Append(make([]byte, 24*room-6)), api.OK)
			tells(t, "Append", j, 2, len(list)+1, 0)
		}
		is(t, "Append", j.Append(nil), api.ErrFull)
		is(t, "Commit", j.Commit(), api.OK)
		d.Crash(0, -1, 0)
		tells(t, "full", opened(t, d, 2, "t", append(list, string(make([]byte, max(0, 24*room-6))))[:j.Seq()]...), 2, j.Seq(), 0)
	}
}

// P7.3: where there are no more numbers an Append is refused; a Checkpoint isn't.
func TestNoMoreNumbers(t *testing.T) {
	d := disk.New(9)
	lay(d, 0, pack(t, 1, most-1, []byte("s")))
	j := opened(t, d, 2, "s")
	is(t, "Checkpoint", j.Checkpoint([]byte("t")), api.OK)
	is(t, "Append", j.Append([]byte("last")), api.OK)
	was := image(d)
	for _, size := range []int{0, 1, 1000, 65535, 65536} {
		is(t, "Append", j.Append(make([]byte, size)), api.ErrOver)
	}
	has(t, "Append", d, was)
	is(t, "Commit", j.Commit(), api.OK)
	tells(t, "no more numbers", opened(t, d, 2, "t", "last"), 2, most, 4)
	is(t, "Checkpoint", j.Checkpoint([]byte("u")), api.OK)
	tells(t, "no more numbers", j, 3, most, 5)
	is(t, "Append", j.Append(nil), api.ErrOver)
	tells(t, "no more numbers", opened(t, d, 2, "u"), 3, most, 5)
}

// P7.3: a Commit is a Flush, whether or not anything was appended.
func TestCommit(t *testing.T) {
	d, j := begun(t, 12, 2)
	for range 2 {
		d.Fuse(1)
		is(t, "Commit", j.Commit(), api.OK)
		is(t, "the Flush behind it", d.Flush(), api.ErrDown)
		d.Fuse(-1)
	}
	is(t, "Append", j.Append([]byte("a")), api.OK)
	is(t, "Append", j.Append(make([]byte, 40)), api.OK)
	if d.Cached() != 3 {
		t.Error("cached", d.Cached())
	}
	was := image(d)
	is(t, "Commit", j.Commit(), api.OK)
	if has(t, "Commit", d, was); d.Cached() != 0 {
		t.Error("cached", d.Cached())
	}
	tells(t, "Commit", j, 2, 2, 5)
}

// dead: a Journal of which the disk has refused anything refuses all from then on, and stays as it is.
func dead(t *testing.T, d *disk.Disk, j *journal.Journal, epoch, seq, room int) {
	t.Helper()
	for range 2 {
		was := image(d)
		for _, size := range []int{0, 1, 43, 1000, 65535, 65536} {
			is(t, "Append", j.Append(make([]byte, size)), api.ErrDown)
			is(t, "Checkpoint", j.Checkpoint(make([]byte, size)), api.ErrDown)
		}
		is(t, "Commit", j.Commit(), api.ErrDown)
		has(t, "down", d, was)
		tells(t, "down", j, epoch, seq, room)
		d.Fuse(-1)
	}
	d.Crash(0, -1, 0)
	is(t, "Commit", j.Commit(), api.ErrDown)
	is(t, "Append", j.Append(nil), api.ErrDown)
	is(t, "Checkpoint", j.Checkpoint(nil), api.ErrDown)
	tells(t, "down", j, epoch, seq, room)
}

// P7.3: when the disk refuses anything.
func TestDown(t *testing.T) {
	for n := range 5 {
		d, j := begun(t, 12, 3)
		is(t, "Append", j.Append([]byte("a")), api.OK)
		d.Fuse(n)
		b := make([]byte, 60) // three sectors
		if n < 3 {
			is(t, "Append", j.Append(b), api.ErrDown)
			opened(t, d, 3, "t", "a")
			dead(t, d, j, 2, 1, 5)
			continue
		}
		is(t, "Append", j.Append(b), api.OK)
		if n == 3 {
			is(t, "Commit", j.Commit(), api.ErrDown)
			opened(t, d, 3, "t", "a", string(b))
			dead(t, d, j, 2, 2, 2)
			continue
		}
		is(t, "Commit", j.Commit(), api.OK)
		is(t, "Append", j.Append(nil), api.ErrDown)
		dead(t, d, j, 2, 2, 2)
		opened(t, d, 3, "t", "a", string(b))
	}
	for n := range 4 {
		for _, closed := range []bool{false, true} {
			d, j := begun(t, 12, 3)
			is(t, "Append", j.Append([]byte("a")), api.OK)
			if closed {
				j = opened(t, d, 3, "t", "a")
			}
			d.Fuse(n)
			is(t, "Checkpoint", j.Checkpoint(make([]byte, 60)), api.ErrDown)
			if n == 3 { // all was written but for the Flush
				tells(t, "not flushed", opened(t, d, 3, string(make([]byte, 60))), 3, 1, 6)
			} else {
				tells(t, "not written", opened(t, d, 3, "t", "a"), 2, 1, 5)
			}
			dead(t, d, j, 2, 1, 5)
			opened(t, d, 3, "t")
		}
	}
}

// All calls of a nil *Journal: ErrArg, 0. One that Open did not make has nothing, and writes nothing.
func TestNoJournal(t *testing.T) {
	var none *journal.Journal
	for _, size := range []int{0, 1, 65535, 65536} {
		is(t, "Append", none.Append(make([]byte, size)), api.ErrArg)
		is(t, "Checkpoint", none.Checkpoint(make([]byte, size)), api.ErrArg)
	}
	is(t, "Commit", none.Commit(), api.ErrArg)
	tells(t, "nil", none, 0, 0, 0)
	zero := &journal.Journal{}
	is(t, "Append", zero.Append(nil), api.ErrState)
	is(t, "Commit", zero.Commit(), api.ErrState)
	is(t, "Checkpoint", zero.Checkpoint(make([]byte, 65536)), api.ErrOver)
	is(t, "Checkpoint", zero.Checkpoint(nil), api.ErrFull)
	tells(t, "zero", zero, 0, 0, 0)
}

// P7.5: the chapter's example.
func TestExample(t *testing.T) {
	d := formatted(t, 12, 2, "s")
	j := opened(t, d, 2, "s")
	is(t, "Checkpoint", j.Checkpoint([]byte("t")), api.OK)
	is(t, "Append", j.Append([]byte("a")), api.OK)
	is(t, "Append", j.Append([]byte("b")), api.OK)
	is(t, "Commit", j.Commit(), api.OK)
	is(t, "Append", j.Append([]byte("c")), api.OK)
	d.Crash(0, -1, 0)
	tells(t, "the example", opened(t, d, 2, "t", "a", "b"), 2, 2, 6)
}

// P7.5: what a crash kept of records behind one that it lost never comes back.
func TestNothingComesBack(t *testing.T) {
	for keep := range 16 {
		d, j := begun(t, 12, 2)
		for _, b := range []string{"a", "b", "c", "d"} {
			is(t, "Append", j.Append([]byte(b)), api.OK)
		}
		d.Crash(keep, -1, 0)
		first := 0
		for keep>>first&1 == 1 {
			first++
		}
		want := []string{"a", "b", "c", "d"}[:first]
		j = opened(t, d, 2, "t", want...)
		tells(t, "behind the crash", j, 2, first, 8-first)
		is(t, "Checkpoint", j.Checkpoint([]byte("u")), api.OK)
		opened(t, d, 2, "u")
		for i, b := range []string{"e", "f", "g", "h"} {
			is(t, "Append", j.Append([]byte(b)), api.OK)
			tells(t, "behind the crash", opened(t, d, 2, "u", []string{"e", "f", "g", "h"}[:i+1]...), 3, first+i+1, 7-i)
		}
	}
}

// P7.5: a Checkpoint that is cut off anywhere leaves the one ahead, with its records, or is whole.
func TestCheckpointCutOff(t *testing.T) {
	states := []string{strings.Repeat("n", 18), strings.Repeat("n", 42), strings.Repeat("n", 60)}
	for _, old := range states {
		for _, state := range states {
			sectors := frame.Sectors(len(state))
			for n := range sectors + 1 {
				for keep := range 1 << n {
					for torn := -1; torn < n; torn++ {
						for _, cut := range []int{0, 1, 6, 23, 24, 25, 27, 28, 31, 32} {
							cutOff(t, old, state, n, keep, torn, cut)
						}
					}
				}
			}
		}
	}
}

// cutOff: one such, over an older one in its place.
func cutOff(t *testing.T, old, state string, n, keep, torn, cut int) {
	t.Helper()
	d := formatted(t, 12, 3, "s")
	j := opened(t, d, 3, "s")
	is(t, "Checkpoint", j.Checkpoint([]byte(old)), api.OK)
	is(t, "Checkpoint", j.Checkpoint([]byte("t")), api.OK)
	is(t, "Append", j.Append([]byte("a")), api.OK)
	is(t, "Commit", j.Commit(), api.OK)
	d.Fuse(n)
	is(t, "Checkpoint", j.Checkpoint([]byte(state)), api.ErrDown)
	d.Crash(keep, torn, cut)
	whole := bytes.HasPrefix(image(d)[3*32:], pack(t, 4, 1, []byte(state)))
	if n == frame.Sectors(len(state)) && keep == 1<<n-1 && (torn < 0 || cut == 32) && !whole {
		t.Fatalf("%d sectors, all kept: not in the other place", n)
	}
	if whole {
		tells(t, "whole", opened(t, d, 3, state), 4, 1, 6)
	} else {
		tells(t, "cut off", opened(t, d, 3, "t", "a"), 3, 1, 5)
	}
}

// R4: what is handed in is neither changed nor kept, and what is answered is nobody else's.
func TestSharesNothing(t *testing.T) {
	d := disk.New(12)
	whole := []byte("some bytes, and more bytes behind them")
	kept := slices.Clone(whole)
	part := whole[:4]
	is(t, "Format", journal.Format(d, 2, part), api.OK)
	j := opened(t, d, 2, "some")
	is(t, "Checkpoint", j.Checkpoint(part), api.OK)
	is(t, "Append", j.Append(part), api.OK)
	is(t, "Append", j.Append(part), api.OK)
	is(t, "Commit", j.Commit(), api.OK)
	if !bytes.Equal(whole, kept) {
		t.Errorf("changed: %q", whole)
	}
	fill(whole)
	_, state, list, _ := journal.Open(d, 2)
	again := opened(t, d, 2, "some", "some", "some")
	for _, b := range append(list, state) {
		if fill(b[:cap(b)]); string(b) != "????" {
			t.Errorf("shared: %q", b)
		}
		for _, other := range append(list, state) {
			if string(other) == "????" {
				copy(other, "some")
			}
		}
		if string(state) != "some" || string(list[0]) != "some" || string(list[1]) != "some" {
			t.Errorf("shared: %q %q", state, list)
		}
	}
	is(t, "Checkpoint", again.Checkpoint([]byte("t")), api.OK)
	opened(t, d, 2, "t")
}

func fill(b []byte) {
	for i := range b {
		b[i] = '?'
	}
}

// words: what a disk has, as the chapter's words have it.
func words(d *disk.Disk, slot int) (epoch, seq int, state []byte, list [][]byte, room int, ok bool) {
	all := image(d)
	for _, place := range [][]byte{all[:slot*32], all[slot*32 : 2*slot*32]} {
		itsEpoch, itsSeq, b, _, e := frame.Unpack(place)
		if e == api.OK && (!ok || itsEpoch > epoch) {
			epoch, seq, state, ok = itsEpoch, itsSeq, b, true
		}
	}
	log := all[2*slot*32:]
	for ok {
		itsEpoch, itsSeq, b, sectors, e := frame.Unpack(log)
		if e != api.OK || itsEpoch != epoch || itsSeq != seq+1 {
			break
		}
		seq, list, log = itsSeq, append(list, b), log[sectors*32:]
	}
	return epoch, seq, state, list, len(log) / 32, ok
}

// asWords: Open has what the chapter's words have.
func asWords(t *testing.T, d *disk.Disk, slot int) {
	t.Helper()
	epoch, seq, state, list, room, ok := words(d, slot)
	if !ok {
		lost(t, "no checkpoint", d, slot, api.ErrLost)
		return
	}
	j, s, l, e := journal.Open(d, slot)
	if e != api.OK || !bytes.Equal(s, state) || !slices.EqualFunc(l, list, bytes.Equal) {
		t.Fatalf("Open is %q, %q, %d; it should be %q, %q", s, l, e, state, list)
	}
	tells(t, "as words", j, epoch, seq, room)
}

// P7.2: disks of records, wherever they lie.
func TestAnyDisk(t *testing.T) {
	r := rand.New(rand.NewSource(7))
	for range 20000 {
		slot := 1 + r.Intn(3)
		sectors := 2*slot + 1 + r.Intn(8)
		d := disk.New(sectors)
		seq := r.Intn(3)
		for at := 0; at < sectors; {
			s := pack(t, 1+r.Intn(6)/5, seq, make([]byte, r.Intn(60)))
			seq = max(0, seq+1+r.Intn(20)/19-r.Intn(20)/19)
			lay(d, at, s)
			if at += len(s) / 32; at < 2*slot {
				at = (at + slot - 1) / slot * slot
			}
		}
		if r.Intn(3) == 0 {
			lay(d, r.Intn(sectors), make([]byte, 32))
		}
		asWords(t, d, slot)
	}
}

// run is a disk, a Journal on it, and what must be there behind a crash.
type run struct {
	t       *testing.T
	d       *disk.Disk
	j       *journal.Journal
	slot    int
	log     int
	count   int      // states and records so far, so that no two are the same
	open    bool     // is the Journal open?
	down    bool     // has the disk refused anything of it?
	state   string   // the last checkpoint's
	epoch   int      // its epoch
	seq     int      // its number
	list    []string // what was appended behind it
	firm    int      // how many of those were committed
	maybe   string   // a state whose Checkpoint was refused; "": none
	greater int      // no epoch so far was greater
}

func begin(t *testing.T, slot, log int) *run {
	r := &run{t: t, d: disk.New(2*slot + log), slot: slot, log: log, state: "first", epoch: 1, greater: 1}
	is(t, "Format", journal.Format(r.d, slot, []byte("first")), api.OK)
	r.j = opened(t, r.d, slot, "first")
	return r
}

// some: bytes of about so many, none like any others.
func (r *run) some(size int) string {
	r.count++
	return strconv.Itoa(r.count) + "." + strings.Repeat("x", size)
}

func (r *run) room() int {
	left := r.log
	for _, b := range r.list {
		left -= frame.Sectors(len(b))
	}
	return left
}

func (r *run) append(size int) {
	b := r.some(size)
	e := r.j.Append([]byte(b))
	switch {
	case r.down:
		is(r.t, "Append", e, api.ErrDown)
	case !r.open:
		is(r.t, "Append", e, api.ErrState)
	case frame.Sectors(len(b)) > r.room():
		is(r.t, "Append", e, api.ErrFull)
	case e == api.OK:
		r.list = append(r.list, b)
	default:
		is(r.t, "Append", e, api.ErrDown)
		r.down = true
	}
}

func (r *run) commit() {
	e := r.j.Commit()
	switch {
	case r.down:
		is(r.t, "Commit", e, api.ErrDown)
	case !r.open:
		is(r.t, "Commit", e, api.ErrState)
	case e == api.OK:
		r.firm = len(r.list)
	default:
		is(r.t, "Commit", e, api.ErrDown)
		r.down = true
	}
}

func (r *run) checkpoint(size int) {
	b := r.some(size)
	e := r.j.Checkpoint([]byte(b))
	switch {
	case r.down:
		is(r.t, "Checkpoint", e, api.ErrDown)
	case frame.Sectors(len(b)) > r.slot:
		is(r.t, "Checkpoint", e, api.ErrFull)
	case e == api.OK:
		r.seq += len(r.list)
		r.state, r.list, r.firm, r.open = b, nil, 0, true
		r.newer()
	default:
		is(r.t, "Checkpoint", e, api.ErrDown)
		r.down, r.maybe = true, b
	}
}

// newer: a checkpoint's epoch is greater than all ahead.
func (r *run) newer() {
	r.epoch = r.j.Epoch()
	if r.epoch <= r.greater {
		r.t.Fatal("epoch", r.epoch, "behind", r.greater)
	}
	r.greater = r.epoch
}

// crash, and Open: a checkpoint that was written, and some of the first records behind it, all that were committed among them.
func (r *run) crash(keep, torn, cut int) {
	r.d.Crash(keep, torn, cut)
	asWords(r.t, r.d, r.slot)
	j, state, list, e := journal.Open(r.d, r.slot)
	if e != api.OK {
		r.t.Fatal("Open", e)
	}
	if r.maybe != "" && string(state) == r.maybe {
		if len(list) > 0 {
			r.t.Fatalf("records behind a checkpoint that was cut off: %q", list)
		}
		r.seq += len(r.list)
		r.j, r.state, r.list = j, r.maybe, nil
		r.newer()
	} else if string(state) != r.state || len(list) < r.firm || len(list) > len(r.list) || j.Epoch() != r.epoch {
		r.t.Fatalf("%q, epoch %d, %q; it should be %q, epoch %d, and at least %d of %q", state, j.Epoch(), list, r.state, r.epoch, r.firm, r.list)
	}
	for i := range list {
		if string(list[i]) != r.list[i] {
			r.t.Fatalf("record %d is %q; it should be %q", i, list[i], r.list[i])
		}
	}
	r.j, r.list, r.firm, r.open, r.down, r.maybe = j, r.list[:len(list)], len(list), false, false, ""
}

// again: an Open without a crash has all that was appended.
func (r *run) again() {
	if !r.down {
		r.j = opened(r.t, r.d, r.slot, r.state, r.list...)
		r.open = false
	}
}

// step: what a few bytes say.
func (r *run) step(kind, a, b, c byte) {
	switch kind % 12 {
	case 0, 1, 2, 3:
		r.append(int(a % 64))
	case 4, 5:
		r.commit()
	case 6, 7:
		r.checkpoint(int(a % 64))
	case 8:
		r.d.Fuse(int(a%8) - 1)
	case 9, 10:
		r.crash(int(a)|int(b)<<8, int(b%9)-1, int(c%36)-1)
	case 11:
		r.again()
	}
	tells(r.t, "a step", r.j, r.epoch, r.seq+len(r.list), r.room())
}

// P7.3, P7.4, P7.5: many scripts, cut off by fuses and crashes wherever it may be.
func TestScripts(t *testing.T) {
	source := rand.New(rand.NewSource(20))
	for i := range 3000 {
		r := begin(t, 1+i%3, 1+i%13)
		for range 60 {
			r.step(byte(source.Intn(256)), byte(source.Intn(256)), byte(source.Intn(256)), byte(source.Intn(256)))
			if t.Failed() {
				t.Fatal("script", i)
			}
		}
	}
}

// P7.5: one script, of 22 Writes and Flushes, with a fuse of every length, and what was not flushed, at most four sectors, kept or torn in every way.
func TestEveryCrash(t *testing.T) {
	for fuse := range 24 {
		for keep := range 16 {
			for torn := -1; torn < 4; torn++ {
				for _, cut := range []int{1, 24, 26, 28, 31} {
					r := begin(t, 2, 7)
					r.d.Fuse(fuse)
					for _, b := range [][2]byte{{6, 30}, {0, 3}, {0, 50}, {4, 0}, {0, 9}, {6, 1}, {0, 30}, {0, 0}, {4, 0}, {6, 25}, {0, 6}, {0, 60}} {
						r.step(b[0], b[1], 0, 0)
					}
					r.crash(keep, torn, cut)
					r.crash(0, -1, 0)
					r.checkpoint(20)
					r.append(0)
					r.append(20)
					r.commit()
					r.crash(keep, torn, cut)
					if len(r.list) != 2 {
						t.Fatal("two records were committed:", r.list)
					}
				}
			}
		}
	}
}

// FuzzScript: any script.
func FuzzScript(f *testing.F) {
	f.Add(byte(1), byte(7), []byte("\x06\x1e\x00\x00\x00\x03\x00\x00\x04\x00\x00\x00\x08\x02\x00\x00\x00\x20\x00\x00\x09\x01\x01\x01"))
	f.Add(byte(0), byte(3), []byte("\x06\x00\x00\x00\x00\x00\x00\x00\x0b\x00\x00\x00\x06\x00\x00\x00\x09\x00\x00\x00"))
	f.Add(byte(2), byte(9), []byte("\x08\x03\x00\x00\x06\x3c\x00\x00\x09\x03\x03\x19\x06\x3c\x00\x00\x0a\xff\xff\xff"))
	f.Fuzz(func(t *testing.T, slot, log byte, script []byte) {
		r := begin(t, 1+int(slot%4), 1+int(log%40))
		for step := range slices.Chunk(script, 4) {
			if len(step) == 4 {
				r.step(step[0], step[1], step[2], step[3])
			}
		}
	})
}

// FuzzOpen: any bytes on a disk.
func FuzzOpen(f *testing.F) {
	s, _ := frame.Pack(1, 0, []byte("s"))
	a, _ := frame.Pack(1, 1, []byte("a"))
	f.Add(1, slices.Concat(s, make([]byte, 32), a))
	f.Add(1, slices.Concat(s, s, a, s))
	f.Add(2, slices.Concat(a, make([]byte, 96), s))
	f.Fuzz(func(t *testing.T, slot int, b []byte) {
		d := disk.New(len(b) / 32)
		lay(d, 0, b[:d.Size()*32])
		if slot < 1 || slot > 1024 || 2*slot >= d.Size() {
			lost(t, "no such slot", d, slot, api.ErrArg)
			return
		}
		asWords(t, d, slot)
	})
}
