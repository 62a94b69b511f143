package octet_test

import (
	"bytes"
	"encoding/binary"
	"math"
	"math/big"
	"slices"
	"strings"
	"testing"

	"prebend/api"
	"prebend/octet"
)

var numbers = []int{
	0, 1, 2, 127, 128, 255, 256, 258, 65535, 65536, 1<<32 - 1, 1 << 32, api.MaxTime, api.MaxAmount, math.MaxInt - 1, math.MaxInt,
	-1, -2, -128, -129, -256, -257, -65536, -1 << 32, -api.MaxAmount, math.MinInt + 1, math.MinInt,
	0x0102030405060708, -0x0102030405060708,
}

var texts = []string{
	"", "a", "ab", "\x00", "\x00\x00\x00", "\xff\xfe", "käse", "a\nb\rc\td", strings.Repeat("x", 255), strings.Repeat("y", 256), strings.Repeat("z", 257),
	strings.Repeat("long", 16383) + "er", strings.Repeat("long", 16383) + "est",
}

// numberBytes: eight bytes, reckoned by whole numbers without bound.
func numberBytes(n int) []byte {
	whole := big.NewInt(int64(n))
	if n < 0 {
		whole.Add(whole, new(big.Int).Lsh(big.NewInt(1), 64))
	}
	return whole.FillBytes(make([]byte, 8))
}

func textBytes(s string) []byte {
	return append(binary.BigEndian.AppendUint16(nil, uint16(len(s))), s...)
}

// P3.1: Int of the chapter's example, and of the numbers at the ends.
func TestInt(t *testing.T) {
	if b := octet.Int(nil, 258); !slices.Equal(b, []byte{0, 0, 0, 0, 0, 0, 1, 2}) {
		t.Error(b)
	}
	if b := octet.Int(nil, math.MinInt); !slices.Equal(b, []byte{128, 0, 0, 0, 0, 0, 0, 0}) {
		t.Error(b)
	}
	for _, n := range numbers {
		for _, ahead := range []string{"", "a", "some bytes ahead"} {
			want := append([]byte(ahead), numberBytes(n)...)
			if b := octet.Int([]byte(ahead), n); !slices.Equal(b, want) {
				t.Errorf("Int(%q, %d) is %v; it should be %v", ahead, n, b, want)
			}
		}
	}
}

// P3.1: Text of the chapter's example, of any bytes, of the longest and of those that are too long.
func TestText(t *testing.T) {
	if b, e := octet.Text(nil, "ab"); e != api.OK || !slices.Equal(b, []byte{0, 2, 97, 98}) {
		t.Error(b, e)
	}
	if b, e := octet.Text(nil, ""); e != api.OK || !slices.Equal(b, []byte{0, 0}) {
		t.Error(b, e)
	}
	for _, s := range append(texts, strings.Repeat("a", 65535)) {
		for _, ahead := range []string{"", "a", "some bytes ahead"} {
			b, e := octet.Text([]byte(ahead), s)
			if want := append([]byte(ahead), textBytes(s)...); e != api.OK || !slices.Equal(b, want) {
				t.Errorf("Text(%q, of %d bytes) is %d bytes, %d; it should be %d bytes", ahead, len(s), len(b), e, len(want))
			}
		}
	}
	for _, size := range []int{65536, 65537, 65536 + 2, 1 << 17, 1 << 24} {
		for _, ahead := range []string{"", "ahead"} {
			if b, e := octet.Text([]byte(ahead), strings.Repeat("a", size)); b != nil || e != api.ErrOver {
				t.Errorf("a text of %d bytes: %d bytes, %d", size, len(b), e)
			}
		}
	}
}

// R4: neither the bytes that are handed in nor their spare room are changed, and no two answers share any.
func TestPutsShareNothing(t *testing.T) {
	long := []byte("0123456789abcdefghijklmnopqrstuvwxyz")
	kept := slices.Clone(long)
	head := long[:4]
	number := octet.Int(head, -1)
	text, _ := octet.Text(head, "text")
	if !slices.Equal(long, kept) {
		t.Errorf("changed: %q", long)
	}
	wantNumber, wantText := slices.Clone(number), slices.Clone(text)
	for i := range long {
		long[i] = '!'
	}
	if !slices.Equal(number, wantNumber) || !slices.Equal(text, wantText) {
		t.Errorf("shared with what was handed in: %q %q", number, text)
	}
	more, other := octet.Int(number, 1), octet.Int(number, 2)
	last, _ := octet.Text(number, "last")
	if more[19] != 1 || other[19] != 2 || string(last[12:]) != "\x00\x04last" {
		t.Errorf("shared with another answer: %v %v %q", more, other, last)
	}
	number[0], text[0] = '?', '?'
	if more[0] != '0' || other[0] != '0' || last[0] != '0' {
		t.Errorf("shared with what was handed in: %q %q %q", more, other, last)
	}
	fill(number[len(number):cap(number)])
	fill(text[len(text):cap(text)])
	if more[19] != 1 || other[19] != 2 || string(last[12:]) != "\x00\x04last" {
		t.Error("spare room is shared")
	}
}

func fill(b []byte) {
	for i := range b {
		b[i] = '#'
	}
}

// P3.2: what was put is read, and the end is where all was read.
func TestReadsWhatWasPut(t *testing.T) {
	var b []byte
	for i := range numbers {
		b = octet.Int(b, numbers[i])
		b, _ = octet.Text(b, texts[i%len(texts)])
	}
	r := octet.New(b)
	for i, n := range numbers {
		s := texts[i%len(texts)]
		if r.End() {
			t.Error("an end ahead of number", i)
		}
		if got := r.Int(); got != n {
			t.Errorf("read %d; %d was put", got, n)
		}
		if r.End() {
			t.Error("an end ahead of text", i)
		}
		if got := r.Text(len(s)); got != s {
			t.Errorf("read %d bytes; %d were put", len(got), len(s))
		}
	}
	for range 3 {
		if !r.End() {
			t.Error("no end")
		}
	}
}

// spoilt: is a Reader bad, and stays so?
func spoilt(r *octet.Reader) bool {
	for range 3 {
		if r.End() || r.Int() != 0 || r.Text(0) != "" || r.Text(math.MaxInt) != "" || r.Text(-1) != "" {
			return false
		}
	}
	return !r.End()
}

// P3.2: where no number is next, the Reader is bad.
func TestNoNumber(t *testing.T) {
	full := []byte{1, 2, 3, 4, 5, 6, 7, 8, 9, 10, 11, 12, 13, 14, 15, 16}
	for size := range full {
		r := octet.New(full[:size])
		if size >= 8 && r.Int() != 0x0102030405060708 {
			t.Error("the first number of", size)
		}
		if (size == 0 || size == 8) != r.End() {
			t.Error("the end of", size)
		}
		if n := r.Int(); n != 0 || !spoilt(r) {
			t.Error(size, "bytes:", n)
		}
	}
}

// P3.2: where no text is next, the Reader is bad: behind too few bytes for how many it has, or for it.
func TestNoText(t *testing.T) {
	for _, b := range []string{"", "\x00", "\x01", "\x00\x01", "\x00\x02a", "\x01\x00ab", "\x01\x02ab", "\xff\xff" + strings.Repeat("a", 65534), "\x80\x00" + strings.Repeat("a", 32767)} {
		r := octet.New([]byte(b))
		if r.End() != (b == "") {
			t.Errorf("the end of %.9q", b)
		}
		if s := r.Text(65535); s != "" || !spoilt(r) {
			t.Errorf("%.9q: %.9q", b, s)
		}
	}
}

// P3.2: a text has at most so many bytes, or is none.
func TestMost(t *testing.T) {
	longest := strings.Repeat("a", 65535)
	for _, s := range []string{"", "a", "ab", "abc", longest} {
		b, _ := octet.Text(nil, s)
		for _, most := range []int{math.MinInt, -65536, -2, -1, 0, 1, 2, 3, 4, 255, 65534, 65535, 65536, 1<<32 + 1, math.MaxInt} {
			r := octet.New(append(slices.Clone(b), "tail"...))
			got := r.Text(most)
			if most < len(s) {
				if got != "" || !spoilt(r) {
					t.Errorf("a text of %d bytes, at most %d: %.9q", len(s), most, got)
				}
				continue
			}
			if got != s || r.End() {
				t.Errorf("a text of %d bytes, at most %d: %d bytes", len(s), most, len(got))
			}
			if r.Text(most); !spoilt(r) {
				t.Error("the tail is no text")
			}
		}
	}
}

// P3.2: what could be read behind a fault isn't.
func TestBadStaysBad(t *testing.T) {
	b, _ := octet.Text(nil, "abc")
	b = octet.Int(b, 7)
	r := octet.New(b)
	if r.Text(2) != "" || r.Int() != 0 || r.Text(3) != "" || r.End() || !spoilt(r) {
		t.Error("a text of more bytes than the most")
	}
	r = octet.New([]byte("\x00\x04abc"))
	if r.Text(9) != "" || r.Text(0) != "" || r.End() || !spoilt(r) {
		t.Error("a text that ends too early")
	}
	r = octet.New([]byte("\x00\x01a\x00\x00"))
	if r.Int() != 0 || r.Text(1) != "" || r.End() || !spoilt(r) {
		t.Error("a number that ends too early")
	}
}

// P3.2: of no Reader, of no bytes.
func TestNone(t *testing.T) {
	var none *octet.Reader
	if !spoilt(none) {
		t.Error("nil")
	}
	for _, b := range [][]byte{nil, {}} {
		r := octet.New(b)
		if !r.End() || r.Int() != 0 || !spoilt(r) {
			t.Error("no bytes")
		}
		r = octet.New(b)
		if r.Text(5) != "" || !spoilt(r) {
			t.Error("no bytes")
		}
	}
}

// R4: a Reader doesn't keep the bytes that it was handed, nor change them; two have nothing in common.
func TestReaderKeepsItsOwn(t *testing.T) {
	b, _ := octet.Text(octet.Int(nil, 258), "ab")
	kept := slices.Clone(b)
	first, second := octet.New(b), octet.New(b)
	if first.Int() != 258 || first.Text(2) != "ab" || !first.End() || !bytes.Equal(b, kept) {
		t.Error("first")
	}
	for i := range b {
		b[i] = 0xff
	}
	if second.End() || second.Int() != 258 || second.Text(2) != "ab" || !second.End() {
		t.Error("second")
	}
}

// FuzzReader: any bytes are read as the chapter's words tell, call by call.
func FuzzReader(f *testing.F) {
	f.Add([]byte("\x00\x02ab\x00\x00\x00\x00\x00\x00\x01\x02"), []byte{3, 0})
	f.Add([]byte("\x00\x02ab"), []byte{1, 5, 0})
	f.Add([]byte("\x00\x00\x00\x00\x00\x00\x00\x00\x00\x01\x00"), []byte{1, 1, 0})
	f.Add([]byte("\xff\xff\xff\xff\xff\xff\xff\xff\x00"), []byte{0, 0, 9})
	f.Fuzz(func(t *testing.T, b, calls []byte) {
		r, at, bad := octet.New(b), 0, false
		for _, call := range calls {
			left := b[at:]
			if call == 0 {
				want := 0
				if bad = bad || len(left) < 8; !bad {
					want, at = int(binary.BigEndian.Uint64(left)), at+8
				}
				if n := r.Int(); n != want {
					t.Fatal(n, want)
				}
			} else {
				most, want := int(call)-2, ""
				if bad = bad || len(left) < 2 || int(left[0])<<8+int(left[1]) > min(most, len(left)-2); !bad {
					size := int(left[0])<<8 + int(left[1])
					want, at = string(left[2:2+size]), at+2+size
				}
				if s := r.Text(most); s != want {
					t.Fatalf("%q %q", s, want)
				}
			}
			if r.End() != (!bad && at == len(b)) {
				t.Fatal("end", at)
			}
		}
	})
}
