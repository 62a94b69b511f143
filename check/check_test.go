package check_test

import (
	"hash/crc32"
	"math/bits"
	"slices"
	"strings"
	"testing"

	"prebend/check"
)

// spelt: a sum with more bytes, by the words of P4.1, in numbers that have room for 33 bits.
func spelt(sum uint32, b []byte) uint32 {
	wide := uint64(sum)
	for _, one := range b {
		wide ^= uint64(one) * (1 << 24)
		for range 8 {
			high := wide >= 1<<31
			wide = wide * 2 % (1 << 32)
			if high {
				wide ^= 0x04C11DB7
			}
		}
	}
	return uint32(wide)
}

// turned: the sum of bytes by the library's CRC-32, which takes the lowest bits first, and turns the sum at its end.
func turned(b []byte) uint32 {
	mirror := slices.Clone(b)
	for i := range mirror {
		mirror[i] = bits.Reverse8(mirror[i])
	}
	return bits.Reverse32(^crc32.ChecksumIEEE(mirror))
}

// counting: so many bytes, none like those around it.
func counting(size int) []byte {
	b := make([]byte, size)
	for i := range b {
		b[i] = byte(i*i>>3 + i*41)
	}
	return b
}

var sums = []uint32{0, 1, 2, 0x04C11DB7, 0x7FFFFFFF, 0x80000000, 0x80000001, 0x00FFFFFF, 0x01000000, 0xFF000000, 0x0376E6E7, 0xDEADBEEF, 0xFFFFFFFE, 0xFFFFFFFF}

// P4.1: Start.
func TestStart(t *testing.T) {
	for range 2 {
		if n := check.Start(); n != 4294967295 {
			t.Errorf("%x", n)
		}
		check.From(check.Start(), []byte("between"))
	}
}

// P4.1: the chapter's examples, and sums that were reckoned elsewhere.
func TestOf(t *testing.T) {
	for _, c := range []struct {
		s    string
		want uint32
	}{
		{"", 0xFFFFFFFF},
		{"123456789", 0x0376E6E7},
		{"\x00", 0x4E08BFB4},
		{"\xff", 0xFFFFFF00},
		{"\xff\xff\xff\xff", 0x00000000},
		{"\xff\xff\xff\xff\x00\x00\x00", 0x00000000},
		{"\xff\xff\xff\xff\x01", 0x04C11DB7},
	} {
		if n := check.Of([]byte(c.s)); n != c.want {
			t.Errorf("Of(%q) is %08x; it should be %08x", c.s, n, c.want)
		}
	}
	if n := check.Of(nil); n != 0xFFFFFFFF {
		t.Errorf("of nil %x", n)
	}
}

// P4.1: From no bytes is the sum itself.
func TestFromNothing(t *testing.T) {
	for _, sum := range sums {
		for _, b := range [][]byte{nil, {}} {
			if n := check.From(sum, b); n != sum {
				t.Errorf("From(%08x, nothing) is %08x", sum, n)
			}
		}
	}
}

// P4.1: From each byte, with the bits of the sum one by one, and sums at their ends.
func TestFromOneByte(t *testing.T) {
	from := slices.Clone(sums)
	for bit := range 32 {
		from = append(from, 1<<bit, ^uint32(1<<bit))
	}
	for one := range 256 {
		b := []byte{byte(one)}
		for _, sum := range from {
			if n, want := check.From(sum, b), spelt(sum, b); n != want {
				t.Errorf("From(%08x, %02x) is %08x; it should be %08x", sum, one, n, want)
			}
		}
	}
}

// P4.1: Of and From many bytes.
func TestFromManyBytes(t *testing.T) {
	for _, size := range []int{1, 2, 3, 4, 5, 7, 8, 9, 31, 32, 33, 255, 256, 257, 65535, 65536, 1 << 20} {
		for _, b := range [][]byte{counting(size), make([]byte, size), []byte(strings.Repeat("\xff", size))} {
			for _, sum := range sums {
				if n, want := check.From(sum, b), spelt(sum, b); n != want {
					t.Errorf("From(%08x, %d bytes) is %08x; it should be %08x", sum, size, n, want)
				}
			}
			if n, want := check.Of(b), turned(b); n != want {
				t.Errorf("Of(%d bytes) is %08x; it should be %08x", size, n, want)
			}
		}
	}
}

// P4.1: bytes that come piece by piece have the sum of all.
func TestPieces(t *testing.T) {
	b := counting(65)
	for i := range b {
		for j := range b[i:] {
			sum := check.From(check.From(check.Of(b[:i]), b[i:i+j]), b[i+j:])
			if sum != check.Of(b) {
				t.Errorf("cut at %d and %d: %08x", i, i+j, sum)
			}
		}
	}
	sum := check.Start()
	for _, one := range b {
		sum = check.From(sum, []byte{one})
	}
	if sum != check.Of(b) {
		t.Errorf("one by one: %08x", sum)
	}
}

// P4.1: the order counts, and each bit does.
func TestChangesAreTold(t *testing.T) {
	b := counting(64)
	was := check.Of(b)
	for i := range b {
		for bit := range 8 {
			b[i] ^= 1 << bit
			if check.Of(b) == was {
				t.Error("bit", bit, "of byte", i)
			}
			b[i] ^= 1 << bit
		}
	}
	if check.Of([]byte("ab")) == check.Of([]byte("ba")) || check.Of([]byte("a")) == check.Of([]byte("a\x00")) || check.Of([]byte("a")) == check.Of([]byte("\x00a")) {
		t.Error("the order, or a 0, does not count")
	}
}

// R4, R5: bytes are not changed, nor those around them read, and the same calls answer the same.
func TestBytesStay(t *testing.T) {
	whole := counting(96)
	kept := slices.Clone(whole)
	part := whole[32:64]
	was := check.Of(part)
	if !slices.Equal(whole, kept) {
		t.Error("changed")
	}
	for i := range 32 {
		whole[i], whole[64+i] = ^whole[i], ^whole[64+i]
	}
	if check.Of(part) != was || check.From(7, part) != spelt(7, kept[32:64]) || check.Of(part) != was {
		t.Error("the same bytes have another sum")
	}
}

// FuzzFrom: any sum and bytes, cut anywhere, come to what the words of P4.1 tell.
func FuzzFrom(f *testing.F) {
	f.Add(uint32(0xFFFFFFFF), []byte("123456789"), 4)
	f.Add(uint32(0), []byte("\x00\xff"), 0)
	f.Add(uint32(0x80000000), []byte{}, 9)
	f.Fuzz(func(t *testing.T, sum uint32, b []byte, cut int) {
		cut = min(max(cut, 0), len(b))
		want := spelt(sum, b)
		if n := check.From(sum, b); n != want {
			t.Errorf("From(%08x, %x) is %08x; it should be %08x", sum, b, n, want)
		}
		if n := check.From(check.From(sum, b[:cut]), b[cut:]); n != want {
			t.Errorf("cut at %d %08x; it should be %08x", cut, n, want)
		}
		if n := check.Of(b); n != turned(b) {
			t.Errorf("Of(%x) is %08x", b, n)
		}
	})
}
