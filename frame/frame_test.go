package frame_test

import (
	"bytes"
	"encoding/binary"
	"encoding/hex"
	"math"
	"slices"
	"strings"
	"testing"

	"prebend/api"
	"prebend/check"
	"prebend/frame"
)

const most = 1<<32 - 1

// counting: so many bytes, none like those around it.
func counting(size int) []byte {
	b := make([]byte, size)
	for i := range b {
		b[i] = byte(i*i>>3 + i*41 + 1)
	}
	return b
}

// stamp: as the chapter's words have it.
func stamp(epoch, seq int) []byte {
	return binary.BigEndian.AppendUint32(binary.BigEndian.AppendUint32(nil, uint32(epoch)), uint32(seq))
}

// cutUp: data, with a stamp behind each 24 bytes.
func cutUp(data, stamp []byte) []byte {
	var s []byte
	for piece := range slices.Chunk(data, 24) {
		s = append(append(s, piece...), stamp...)
	}
	return s
}

// spelt: a record's sectors, as the chapter's words have them.
func spelt(epoch, seq int, b []byte) []byte {
	size := binary.BigEndian.AppendUint16(nil, uint16(len(b)))
	sum := check.Of(slices.Concat(stamp(epoch, seq), size, b))
	data := slices.Concat(size, binary.BigEndian.AppendUint32(nil, sum), b)
	for len(data)%24 != 0 {
		data = append(data, 0)
	}
	return cutUp(data, stamp(epoch, seq))
}

// pack: a Pack that is OK.
func pack(t *testing.T, epoch, seq int, b []byte) []byte {
	t.Helper()
	s, e := frame.Pack(epoch, seq, b)
	if e != api.OK {
		t.Fatalf("Pack(%d, %d, %d bytes) is %d", epoch, seq, len(b), e)
	}
	return s
}

// none: sectors begin with no record, and nothing is told of one.
func none(t *testing.T, s []byte, what ...any) {
	t.Helper()
	if epoch, seq, b, sectors, e := frame.Unpack(s); epoch != 0 || seq != 0 || b != nil || sectors != 0 || e != api.ErrForm {
		t.Error(append(what, "is a record:", epoch, seq, len(b), sectors, e)...)
	}
}

// begins: sectors begin with just that record.
func begins(t *testing.T, s []byte, epoch, seq int, b []byte) {
	t.Helper()
	gotEpoch, gotSeq, got, sectors, e := frame.Unpack(s)
	if gotEpoch != epoch || gotSeq != seq || !bytes.Equal(got, b) || sectors != frame.Sectors(len(b)) || e != api.OK {
		t.Errorf("Unpack is %d, %d, %d bytes, %d, %d; it should be %d, %d, %d bytes", gotEpoch, gotSeq, len(got), sectors, e, epoch, seq, len(b))
	}
}

var (
	halves = []int{0, 1, 2, 255, 256, 258, 0x01020304, 1 << 16, 1<<31 - 1, 1 << 31, 1<<31 + 1, 0xFEDCBA98, most - 1, most}
	wrong  = []int{-1, -2, -most, -most - 1, -1 << 40, math.MinInt, math.MinInt + 1, 1 << 32, 1<<32 + 1, 1 << 33, 1 << 40, 1 << 62, math.MaxInt}
	sizes  = []int{0, 1, 2, 17, 18, 19, 20, 41, 42, 43, 65, 66, 67, 255, 256, 257, 1000, 4095, 65513, 65514, 65515, 65534, 65535}
)

// P6.1: Sectors, with the chapter's example: 18 bytes have one, 19 two.
func TestSectors(t *testing.T) {
	for _, c := range [][2]int{{0, 1}, {1, 1}, {17, 1}, {18, 1}, {19, 2}, {42, 2}, {43, 3}, {66, 3}, {67, 4}, {65514, 2730}, {65515, 2731}, {65534, 2731}, {65535, 2731}} {
		if n := frame.Sectors(c[0]); n != c[1] {
			t.Errorf("%d bytes: %d sectors; it should be %d", c[0], n, c[1])
		}
	}
	for _, n := range []int{-1, -2, -6, -24, -65535, math.MinInt, math.MinInt + 6, 65536, 65537, 1 << 17, 1 << 32, math.MaxInt - 28, math.MaxInt} {
		if got := frame.Sectors(n); got != 0 {
			t.Errorf("%d bytes: %d sectors", n, got)
		}
	}
}

// P6.1: each record has as many sectors as Sectors tells.
func TestSectorsOfEachSize(t *testing.T) {
	b := counting(api.MaxRec)
	for n := range 300 {
		if s := pack(t, 1, 2, b[:n]); len(s) != 32*frame.Sectors(n) {
			t.Errorf("%d bytes: %d of %d", n, len(s), frame.Sectors(n))
		}
	}
	for n := range api.MaxRec {
		if first, next := frame.Sectors(n), frame.Sectors(n+1); next-first != map[bool]int{true: 1}[(n+6)%24 == 0] {
			t.Errorf("%d bytes: %d, one more: %d", n, first, next)
		}
	}
}

// P6.1: records whose sectors were reckoned elsewhere.
func TestPackIsJustThat(t *testing.T) {
	for _, c := range []struct {
		epoch, seq int
		b          string
		want       string
	}{
		{0, 0, "", "000091e9ae380000000000000000000000000000000000000000000000000000"},
		{1, 2, "a", "000155b4f0c66100000000000000000000000000000000000000000100000002"},
		{most, 0x80000001, "eighteen letters..", "001271fe00bf656967687465656e206c6574746572732e2effffffff80000001"},
		{0x01020304, most - 1, "nineteen letters...", "0013e42152616e696e657465656e206c6574746572732e2e01020304fffffffe2e000000000000000000000000000000000000000000000001020304fffffffe"},
	} {
		if s := hex.EncodeToString(pack(t, c.epoch, c.seq, []byte(c.b))); s != c.want {
			t.Errorf("%d, %d, %q is %s; it should be %s", c.epoch, c.seq, c.b, s, c.want)
		}
		s, _ := hex.DecodeString(c.want)
		begins(t, s, c.epoch, c.seq, []byte(c.b))
	}
}

// P6.1, P6.2: any epoch, number and size is packed as the words tell, and unpacked again.
func TestThereAndBack(t *testing.T) {
	for _, size := range sizes {
		for _, b := range [][]byte{counting(size), make([]byte, size), bytes.Repeat([]byte{255}, size)} {
			for i, epoch := range halves {
				seq := halves[(i*5+size)%len(halves)]
				s := pack(t, epoch, seq, b)
				if !bytes.Equal(s, spelt(epoch, seq, b)) {
					t.Errorf("Pack(%d, %d, %d bytes) is not as the words tell", epoch, seq, size)
				}
				begins(t, s, epoch, seq, b)
			}
		}
	}
	for _, epoch := range halves {
		for _, seq := range halves {
			begins(t, pack(t, epoch, seq, []byte("a record")), epoch, seq, []byte("a record"))
		}
	}
}

// P6.1: an epoch and a number are from 0 to 2^32 - 1; that is asked ahead of how many bytes there are.
func TestWrongArguments(t *testing.T) {
	refused := func(epoch, seq, size int, want api.Errno) {
		t.Helper()
		if s, e := frame.Pack(epoch, seq, make([]byte, size)); s != nil || e != want {
			t.Errorf("Pack(%d, %d, %d bytes) is %d bytes, %d; it should be %d", epoch, seq, size, len(s), e, want)
		}
	}
	for _, size := range []int{0, 1, 65535, 65536, 1 << 17} {
		for _, n := range wrong {
			refused(n, 0, size, api.ErrArg)
			refused(0, n, size, api.ErrArg)
			refused(most, n, size, api.ErrArg)
			refused(n, most, size, api.ErrArg)
			refused(n, n, size, api.ErrArg)
		}
	}
	for _, size := range []int{65536, 65537, 65536 + 24, 1 << 17, 1 << 20} {
		refused(0, 0, size, api.ErrOver)
		refused(most, most, size, api.ErrOver)
	}
}

// P6.2: what lies behind a record does not count.
func TestMoreBehind(t *testing.T) {
	for _, size := range []int{0, 18, 19, 1000, 65535} {
		b := counting(size)
		s := pack(t, 7, 8, b)
		for _, more := range [][]byte{{0}, {1, 2, 3}, make([]byte, 32), bytes.Repeat([]byte{255}, 31), s, pack(t, 7, 9, []byte("next"))} {
			begins(t, slices.Concat(s, more), 7, 8, b)
		}
	}
	one, two := counting(19), counting(60)
	both := slices.Concat(pack(t, 3, 4, one), pack(t, 3, 5, two))
	begins(t, both, 3, 4, one)
	begins(t, both[64:], 3, 5, two)
	none(t, both[32:], "from the second sector on")
	none(t, both[1:], "from the second byte on")
}

// P6.2: a record that is cut off is none.
func TestCutOff(t *testing.T) {
	for _, size := range []int{0, 18, 19, 43, 300} {
		s := pack(t, 5, 6, counting(size))
		for i := range s {
			none(t, s[:i], size, "bytes, cut off at", i)
			none(t, slices.Clone(s[:i]), size, "bytes, cut off at", i, "without more room")
		}
	}
	s := pack(t, 5, 6, counting(65535))
	for _, i := range []int{1, 31, 32, 33, 24 * 2731, len(s) - 33, len(s) - 32, len(s) - 31, len(s) - 8, len(s) - 1} {
		none(t, s[:i], "65535 bytes, cut off at", i)
	}
}

// P6.2: a record of which one bit is another is none.
func TestOneBitOff(t *testing.T) {
	for _, size := range []int{0, 1, 18, 19, 42, 43, 100} {
		s := pack(t, 258, 3, counting(size))
		s = append(s, make([]byte, 32*3000)...)
		for i := range 32 * frame.Sectors(size) {
			for bit := range 8 {
				s[i] ^= 1 << bit
				none(t, s, size, "bytes, another bit", bit, "of byte", i)
				s[i] ^= 1 << bit
			}
		}
		begins(t, s, 258, 3, counting(size))
	}
}

// P6.2: bytes that fill the last sector are 0, though the sum does not tell.
func TestFilledWithOthers(t *testing.T) {
	for _, size := range []int{0, 1, 17, 19, 41, 65534} {
		s := pack(t, 1, 1, counting(size))
		last := len(s) - 8
		fill := 24*frame.Sectors(size) - 6 - size
		for i := last - fill; i < last; i++ {
			for _, c := range []byte{1, 128, 255} {
				s[i] = c
				none(t, s, size, "bytes, filled with", c, "at", i)
				s[i] = 0
			}
		}
	}
}

// P6.2: all sectors bear the first one's stamp, though their data are right.
func TestOtherStamps(t *testing.T) {
	b := counting(100)
	s := pack(t, 9, 10, b)
	for i := range frame.Sectors(len(b)) {
		for _, other := range [][]byte{stamp(9, 11), stamp(9, 9), stamp(8, 10), stamp(10, 9), stamp(0, 0), stamp(most, most)} {
			x := slices.Clone(s)
			copy(x[i*32+24:], other)
			none(t, x, "the stamp of sector", i)
		}
	}
	none(t, cutUp(bytes.Join(slices.Collect(dataOf(s)), nil), stamp(9, 11)), "all stamps are others, and the sum is the first ones'")
}

// dataOf: the data of each sector.
func dataOf(s []byte) func(func([]byte) bool) {
	return func(yield func([]byte) bool) {
		for sector := range slices.Chunk(s, 32) {
			if !yield(sector[:24]) {
				return
			}
		}
	}
}

// P6.2: a sum of anything but the stamp, the two bytes and the record's bytes is not right.
func TestOtherSums(t *testing.T) {
	b, size, mark := []byte("a record's bytes, more than one sector has"), []byte{0, 42}, stamp(4, 5)
	whole := func(sum uint32) []byte {
		data := slices.Concat(size, binary.BigEndian.AppendUint32(nil, sum), b)
		return cutUp(slices.Concat(data, make([]byte, 24*frame.Sectors(len(b))-len(data))), mark)
	}
	right := check.Of(slices.Concat(mark, size, b))
	begins(t, whole(right), 4, 5, b)
	for _, sum := range []uint32{0, most, ^right, right + 1, right - 1, right<<16 | right>>16, check.Of(b), check.Of(slices.Concat(size, b)), check.Of(slices.Concat(mark, b)), check.Of(slices.Concat(size, b, mark)), check.Of(slices.Concat(b, size, mark)), check.From(0, slices.Concat(mark, size, b)), check.Of(slices.Concat(mark, size, b, make([]byte, 0, 9)[:6]))} {
		none(t, whole(sum), "the sum", sum)
	}
}

// P6.2: no sectors, and sectors of one byte alone; the chapter's example: 32 bytes 0 are none.
func TestNoRecord(t *testing.T) {
	none(t, nil, "nil")
	none(t, []byte{}, "no bytes")
	for c := range 256 {
		for _, size := range []int{1, 2, 8, 24, 31, 32, 33, 64, 1024, 32 * 2731, 1 << 17} {
			none(t, bytes.Repeat([]byte{byte(c)}, size), size, "bytes", c)
		}
	}
	none(t, []byte(strings.Repeat("any text that is none ", 9)), "a text")
}

// P6.2: a record that was not written whole is none, whatever lay there before: the sectors of others, or a part of one.
func TestNotWrittenWhole(t *testing.T) {
	b := counting(90)
	s := pack(t, 2, 1, b)
	before := [][]byte{make([]byte, len(s)), bytes.Repeat([]byte{255}, len(s)), pack(t, 1, 1, b), pack(t, 2, 0, b), pack(t, 2, 1, bytes.Repeat([]byte{9}, 90)), pack(t, 2, 1, b[:80])[:len(s)]}
	for which, old := range before {
		for i := range frame.Sectors(len(b)) {
			for cut := range 32 {
				x := slices.Clone(s)
				copy(x[i*32+cut:i*32+32], old[i*32+cut:])
				if bytes.Equal(x, s) {
					continue
				}
				none(t, x, "what lay before is", which, "and sector", i, "is cut at", cut)
			}
		}
		for kept := range 1<<frame.Sectors(len(b)) - 1 {
			x := slices.Clone(old)
			for i := range frame.Sectors(len(b)) {
				if kept>>i&1 == 1 {
					copy(x[i*32:i*32+32], s[i*32:])
				}
			}
			if _, _, got, _, e := frame.Unpack(x); e == api.OK && !bytes.Equal(x, old) && !bytes.Equal(x, s) {
				t.Errorf("what lay before is %d, of which %b is written: %v", which, kept, got)
			}
		}
	}
}

// R4: what is handed in is not changed, spare room included, nor kept; what is answered is new memory.
func TestMemory(t *testing.T) {
	whole := counting(400)
	kept := slices.Clone(whole)
	b := whole[10:60]
	first, second := pack(t, 1, 2, b), pack(t, 1, 2, b)
	if !bytes.Equal(whole, kept) {
		t.Error("Pack changes what is handed in")
	}
	fill(b)
	fill(first[:cap(first)])
	if !bytes.Equal(second, spelt(1, 2, kept[10:60])) || !bytes.Equal(b, bytes.Repeat([]byte{'#'}, 50)) {
		t.Error("Pack's answer is shared")
	}

	room := slices.Concat(second, kept)
	was := slices.Clone(room)
	_, _, one, _, _ := frame.Unpack(room[:len(second)])
	_, _, two, _, _ := frame.Unpack(room[:len(second)])
	none(t, room[:len(second)-1], "cut off")
	none(t, room[1:len(second)], "from the second byte on")
	if !bytes.Equal(room, was) {
		t.Error("Unpack changes what is handed in")
	}
	fill(one[:cap(one)])
	if !bytes.Equal(room, was) || !bytes.Equal(two, kept[10:60]) {
		t.Error("Unpack's answer is shared")
	}
	fill(room)
	if !bytes.Equal(two, kept[10:60]) {
		t.Error("Unpack's answer is what was handed in")
	}
}

func fill(b []byte) {
	for i := range b {
		b[i] = '#'
	}
}

// R4, R5: nil and empty are the same, and the same calls answer the same.
func TestSameAgain(t *testing.T) {
	for range 3 {
		if !bytes.Equal(pack(t, 1, 1, nil), pack(t, 1, 1, []byte{})) {
			t.Error("nil is another record")
		}
		begins(t, pack(t, 1, 1, nil), 1, 1, nil)
		none(t, make([]byte, 32), "32 bytes 0")
		if _, e := frame.Pack(-1, 0, nil); e != api.ErrArg || frame.Sectors(19) != 2 {
			t.Error("another answer")
		}
	}
}

// FuzzPack: any record is packed as the words tell, and unpacked again.
func FuzzPack(f *testing.F) {
	f.Add(258, 3, []byte("nineteen letters..."), []byte("more"))
	f.Add(0, most, []byte{}, []byte{})
	f.Add(-1, 0, []byte("a"), []byte{})
	f.Add(0, 1<<32, []byte("a"), []byte{})
	f.Fuzz(func(t *testing.T, epoch, seq int, b, more []byte) {
		s, e := frame.Pack(epoch, seq, b)
		if epoch != int(uint32(epoch)) || seq != int(uint32(seq)) {
			if s != nil || e != api.ErrArg {
				t.Fatal(epoch, seq, e)
			}
			return
		}
		if len(b) > 65535 {
			if s != nil || e != api.ErrOver {
				t.Fatal(len(b), e)
			}
			return
		}
		if e != api.OK || !bytes.Equal(s, spelt(epoch, seq, b)) {
			t.Fatal(epoch, seq, len(b), e)
		}
		begins(t, append(s, more...), epoch, seq, b)
	})
}

// FuzzUnpack: any bytes begin with a record, or not, as the words tell. With whole they get the right sum, if that is all that is wrong.
func FuzzUnpack(f *testing.F) {
	f.Add(make([]byte, 32), false)
	f.Add(make([]byte, 32), true)
	f.Add(spelt(258, 3, []byte("nineteen letters...")), false)
	f.Add(append(spelt(1, 2, counting(60)), 1, 2, 3), true)
	f.Add(bytes.Repeat([]byte{255}, 100), true)
	f.Fuzz(func(t *testing.T, s []byte, whole bool) {
		if len(s) < 32 {
			none(t, s, "too few bytes")
			return
		}
		epoch, seq, size := int(binary.BigEndian.Uint32(s[24:])), int(binary.BigEndian.Uint32(s[28:])), int(binary.BigEndian.Uint16(s))
		long := 32 * frame.Sectors(size)
		if len(s) < long {
			none(t, s, "too few bytes")
			return
		}
		data := bytes.Join(slices.Collect(dataOf(s[:long])), nil)
		b := data[6 : 6+size]
		want := spelt(epoch, seq, b)
		if whole {
			s = slices.Clone(s)
			copy(s[2:6], want[2:6])
		}
		if bytes.Equal(s[:long], want) {
			begins(t, s, epoch, seq, b)
		} else {
			none(t, s, "another one")
		}
	})
}
