package entry_test

import (
	"encoding/binary"
	"math"
	"math/rand"
	"slices"
	"strings"
	"testing"

	"prebend/api"
	"prebend/entry"
)

const (
	mostName = 16
	mostArgs = 8
	mostLegs = 64
	// Where the bytes of a transaction without names and lists tell how many there are of each.
	keyAt  = 24
	nameAt = 26
	argsAt = 28
	legsAt = 36
)

func TestLimits(t *testing.T) {
	if api.MaxName != mostName || api.MaxArgs != mostArgs || api.MaxLegs != mostLegs {
		t.Error(api.MaxName, api.MaxArgs, api.MaxLegs)
	}
}

var ends = []int{
	0, 1, -1, 2, -2, 127, 128, 255, 256, 258, -128, -256, 65535, 65536, 1<<31 - 1, 1 << 31, 1<<32 - 1, 1 << 32, -1 << 31, -1 << 32,
	api.MaxTime, api.MaxAmount, -api.MaxAmount, math.MaxInt - 1, math.MaxInt, math.MinInt + 1, math.MinInt, 0x0102030405060708, -0x0102030405060708,
}

var names = []string{
	"", "a", "ab", "\x00", "\x00\x00", "\xff", "\xff\xfe\x80", "käse", "a b", "a\nb\r\t", "\x00\x01a", "日本語日本", "fifteen letters", "sixteen letters!", strings.Repeat("\x00", 16), strings.Repeat("\xff", 16),
}

var longNames = []string{"seventeen letters", strings.Repeat("\x00", 17), strings.Repeat("a", 18), "日本語日本語", strings.Repeat("a", 255), strings.Repeat("a", 256), strings.Repeat("a", 272), strings.Repeat("a", 65535), strings.Repeat("a", 65536), strings.Repeat("a", 65552), strings.Repeat("a", 1<<20)}

// args: so many, all of them different.
func args(n int) []int {
	var list []int
	for i := range n {
		list = append(list, 1000*i-3)
	}
	return list
}

// legs: so many, all of them different.
func legs(n int) []api.Leg {
	var list []api.Leg
	for i := range n {
		list = append(list, api.Leg{Acct: i, Amount: 7 - 300*i})
	}
	return list
}

// full: a transaction that has something of all.
func full() api.Tx {
	return api.Tx{Seq: 1, Time: 2, Kind: 3, Key: "k", Name: "nn", Args: []int{4, -5}, Legs: []api.Leg{{Acct: 0, Amount: -7}, {Acct: 1, Amount: 7}}}
}

// The words of the chapter, and of chapter 3, one by one.

func numberBytes(b []byte, list ...int) []byte {
	for _, n := range list {
		b = binary.BigEndian.AppendUint64(b, uint64(n))
	}
	return b
}

func textBytes(b []byte, s string) []byte {
	return append(binary.BigEndian.AppendUint16(b, uint16(len(s))), s...)
}

func bytesOf(x api.Tx) ([]byte, api.Errno) {
	if len(x.Key) > mostName || len(x.Name) > mostName || len(x.Args) > mostArgs || len(x.Legs) > mostLegs {
		return nil, api.ErrForm
	}
	return layOut(x), api.OK
}

// layOut: a transaction's bytes, even if it has too much of something.
func layOut(x api.Tx) []byte {
	b := numberBytes(nil, x.Seq, x.Time, x.Kind)
	b = textBytes(textBytes(b, x.Key), x.Name)
	b = numberBytes(b, len(x.Args))
	b = numberBytes(b, x.Args...)
	b = numberBytes(b, len(x.Legs))
	for _, l := range x.Legs {
		b = numberBytes(b, l.Acct, l.Amount)
	}
	return b
}

// txOf: what bytes tell, piece by piece, as long as they have the next piece.
func txOf(b []byte) (api.Tx, api.Errno) {
	good := true
	next := func(size, most int) []byte {
		if good = good && 0 <= size && size <= most && size <= len(b); !good {
			return make([]byte, 8)
		}
		piece := b[:size]
		b = b[size:]
		return piece
	}
	number := func() int { return int(binary.BigEndian.Uint64(next(8, 8))) }
	text := func() string { return string(next(int(binary.BigEndian.Uint16(next(2, 2))), mostName)) }
	x := api.Tx{Seq: number(), Time: number(), Kind: number(), Key: text(), Name: text()}
	n := number()
	for good = good && 0 <= n && n <= mostArgs; good && len(x.Args) < n; {
		x.Args = append(x.Args, number())
	}
	n = number()
	for good = good && 0 <= n && n <= mostLegs; good && len(x.Legs) < n; {
		x.Legs = append(x.Legs, api.Leg{Acct: number(), Amount: number()})
	}
	if !good || len(b) > 0 {
		return api.Tx{}, api.ErrForm
	}
	return x, api.OK
}

func sameTx(x, y api.Tx) bool {
	return x.Seq == y.Seq && x.Time == y.Time && x.Kind == y.Kind && x.Key == y.Key && x.Name == y.Name && slices.Equal(x.Args, y.Args) && slices.Equal(x.Legs, y.Legs)
}

// spare: a list with room behind it, in which there is something.
func spare[E any](list []E) []E {
	return append(slices.Clone(list), append(slices.Clone(list), make([]E, 3)...)...)[:len(list)]
}

// scribble: all over an answer, and the room behind it.
func scribble[E any](list []E, with E) {
	for i := range list[:cap(list)] {
		list[:cap(list)][i] = with
	}
}

// encodes: Encode answers what the words ask for, twice, in memory of its own, and changes nothing (R3 to R5).
func encodes(t *testing.T, x api.Tx) ([]byte, api.Errno) {
	t.Helper()
	x.Args, x.Legs = spare(x.Args), spare(x.Legs)
	givenArgs, givenLegs := slices.Clone(x.Args[:cap(x.Args)]), slices.Clone(x.Legs[:cap(x.Legs)])
	want, wantE := bytesOf(x)
	for range 2 {
		b, e := entry.Encode(x)
		if e != wantE || !slices.Equal(b, want) {
			t.Errorf("Encode(%#v) is %v, %d; it should be %v, %d", x, b, e, want, wantE)
		}
		scribble(b, '#')
	}
	if !slices.Equal(x.Args[:cap(x.Args)], givenArgs) || !slices.Equal(x.Legs[:cap(x.Legs)], givenLegs) {
		t.Error("what was handed in was changed", x)
	}
	return want, wantE
}

// decodes: Decode answers what the words ask for, likewise; with OK, Encode answers those bytes, just so.
func decodes(t *testing.T, b []byte) api.Errno {
	t.Helper()
	b = spare(b)
	given := slices.Clone(b[:cap(b)])
	want, wantE := txOf(b)
	for range 2 {
		x, e := entry.Decode(b)
		if e != wantE || !sameTx(x, want) {
			t.Errorf("Decode(%v) is %#v, %d; it should be %#v, %d", b, x, e, want, wantE)
		}
		if again, againE := entry.Encode(x); e == api.OK && (againE != api.OK || !slices.Equal(again, b)) {
			t.Errorf("Encode of Decode(%v) is %v, %d", b, again, againE)
		}
		scribble(x.Args, -77)
		scribble(x.Legs, api.Leg{Acct: -77, Amount: -77})
	}
	if !slices.Equal(b[:cap(b)], given) {
		t.Error("what was handed in was changed", b)
	}
	return wantE
}

// both: a transaction that may be is encoded, and its bytes are decoded.
func both(t *testing.T, x api.Tx) {
	t.Helper()
	b, e := encodes(t, x)
	if e != api.OK {
		t.Errorf("%#v should be a transaction that may be", x)
	}
	if y, e := entry.Decode(b); e != api.OK || !sameTx(x, y) {
		t.Errorf("Decode of Encode(%#v) is %#v, %d", x, y, e)
	}
	decodes(t, b)
}

// none: of a transaction that has too much of something there are no bytes, nor is it what the bytes tell that it would have.
func none(t *testing.T, x api.Tx) {
	t.Helper()
	if b, e := entry.Encode(x); len(b) != 0 || e != api.ErrForm {
		t.Errorf("Encode of a transaction with too much is %d bytes, %d", len(b), e)
	}
	encodes(t, x)
	noTx(t, layOut(x))
}

// noTx: there is no transaction with these bytes, and nothing is answered beside that.
func noTx(t *testing.T, b []byte) {
	t.Helper()
	if x, e := entry.Decode(b); e != api.ErrForm || !sameTx(x, api.Tx{}) {
		t.Errorf("Decode(%v) is %#v, %d; it should be ErrForm", b[:min(len(b), 100)], x, e)
	}
}

// P12.1: the chapter's example.
func TestExample(t *testing.T) {
	b, e := entry.Encode(api.Tx{})
	if e != api.OK || !slices.Equal(b, make([]byte, 8*5+2*2)) {
		t.Error(b, e)
	}
	if x, e := entry.Decode(make([]byte, 44)); e != api.OK || !sameTx(x, api.Tx{}) {
		t.Error(x, e)
	}
}

// P12.1: byte by byte, in the order of the words.
func TestLayout(t *testing.T) {
	minus := []byte{255, 255, 255, 255, 255, 255, 255}
	zero := make([]byte, 7)
	want := slices.Concat(
		zero, []byte{1}, zero, []byte{2}, zero, []byte{3},
		[]byte{0, 1, 'k', 0, 2, 'n', 'n'},
		zero, []byte{2}, zero, []byte{4}, minus, []byte{251},
		zero, []byte{2}, zero, []byte{0}, minus, []byte{249}, zero, []byte{1}, zero, []byte{7},
	)
	if b, e := entry.Encode(full()); e != api.OK || !slices.Equal(b, want) {
		t.Errorf("%v, %d; it should be %v", b, e, want)
	}
	if x, e := entry.Decode(want); e != api.OK || !sameTx(x, full()) {
		t.Error(x, e)
	}
}

// P12.1, P12.2: nil and empty lists have the same bytes.
func TestEmptyLists(t *testing.T) {
	b, e := entry.Encode(api.Tx{Args: []int{}, Legs: []api.Leg{}})
	if e != api.OK || !slices.Equal(b, make([]byte, 44)) {
		t.Error(b, e)
	}
	// What stands in a list's spare room is none of its items.
	both(t, api.Tx{Args: args(20)[:0], Legs: legs(90)[:0]})
	both(t, api.Tx{Args: args(20)[:8], Legs: legs(90)[:64]})
}

// P12.1, P12.2: each number at its ends, in each place; whether there is such an account or kind is nothing to the bytes.
func TestNumbers(t *testing.T) {
	for _, n := range ends {
		both(t, api.Tx{Seq: n})
		both(t, api.Tx{Time: n})
		both(t, api.Tx{Kind: n})
		for place := range mostArgs {
			x := api.Tx{Args: args(mostArgs)}
			x.Args[place] = n
			both(t, x)
		}
		for _, place := range []int{0, 1, 31, 62, 63} {
			x := api.Tx{Legs: legs(mostLegs)}
			x.Legs[place].Acct = n
			both(t, x)
			x.Legs[place].Amount = n
			both(t, x)
			x.Legs[place].Acct = 5
			both(t, x)
		}
		both(t, api.Tx{Seq: n, Time: n, Kind: n, Key: "key", Name: "name", Args: []int{n, n}, Legs: []api.Leg{{Acct: n, Amount: n}}})
	}
}

// P12.1, P12.2: texts of any bytes, of up to 16.
func TestNames(t *testing.T) {
	for size := range mostName + 1 {
		both(t, api.Tx{Key: strings.Repeat("k", size)})
		both(t, api.Tx{Name: strings.Repeat("n", size)})
		both(t, api.Tx{Key: strings.Repeat("k", size), Name: strings.Repeat("n", mostName-size), Args: []int{1}})
	}
	for _, key := range names {
		for _, name := range names {
			both(t, api.Tx{Key: key, Name: name})
			both(t, api.Tx{Seq: -1, Time: -1, Kind: -1, Key: key, Name: name, Args: []int{-1}, Legs: []api.Leg{{Acct: -1, Amount: -1}}})
		}
	}
}

// P12.1, P12.2: as many args and legs as there may be.
func TestHowMany(t *testing.T) {
	for n := range mostArgs + 1 {
		both(t, api.Tx{Args: args(n)})
		both(t, api.Tx{Args: make([]int, n), Legs: legs(3)})
	}
	for n := range mostLegs + 1 {
		both(t, api.Tx{Legs: legs(n)})
		both(t, api.Tx{Legs: make([]api.Leg, n), Args: args(n % 9)})
	}
	most := api.Tx{Seq: math.MinInt, Time: -1, Kind: math.MaxInt, Key: names[14], Name: names[15], Args: args(mostArgs), Legs: legs(mostLegs)}
	both(t, most)
	if b, e := entry.Encode(most); e != api.OK || len(b) != 44+2*16+8*8+16*64 {
		t.Error(len(b), e)
	}
}

// P12.1, P12.2: too much of something, be it of one thing or of several.
func TestTooMuch(t *testing.T) {
	for _, s := range longNames {
		x, y := full(), full()
		x.Key, y.Name = s, s
		for _, one := range []api.Tx{{Key: s}, {Name: s}, {Key: s, Name: s}, x, y} {
			if b, e := entry.Encode(one); len(b) != 0 || e != api.ErrForm {
				t.Error(len(s), len(b), e)
			}
			// Of a longer one two bytes don't tell how many there are.
			if len(s) <= 65535 {
				none(t, one)
			}
		}
	}
	for _, n := range []int{9, 10, 16, 64, 65, 256, 264, 1000} {
		none(t, api.Tx{Args: args(n)})
		none(t, api.Tx{Args: make([]int, n)})
		x := full()
		x.Args = args(n)
		none(t, x)
	}
	for _, n := range []int{65, 66, 128, 255, 256, 320, 1000} {
		none(t, api.Tx{Legs: legs(n)})
		none(t, api.Tx{Legs: make([]api.Leg, n)})
		x := full()
		x.Legs = legs(n)
		none(t, x)
	}
	none(t, api.Tx{Key: longNames[0], Name: longNames[1], Args: args(9), Legs: legs(65)})
	none(t, api.Tx{Args: args(9), Legs: legs(65)})
	// A limit is each thing's own.
	none(t, api.Tx{Args: args(mostLegs)})
	none(t, api.Tx{Args: args(mostName)})
	both(t, api.Tx{Legs: legs(mostName + 1), Args: args(mostArgs)})
}

// P12.2: no bytes, too few, and too many.
func TestCutOff(t *testing.T) {
	noTx(t, nil)
	noTx(t, []byte{})
	most := api.Tx{Key: names[13], Name: names[13], Args: args(mostArgs), Legs: legs(mostLegs)}
	for _, x := range []api.Tx{{}, full(), most, {Key: "a"}, {Name: "a"}, {Args: args(1)}, {Legs: legs(1)}} {
		b := layOut(x)
		both(t, x)
		for size := range b {
			noTx(t, b[:size])
			// Without the first ones, or behind others, bytes may be another transaction's.
			decodes(t, b[size+1:])
		}
		for _, tail := range []string{"\x00", "a", "\xff", "\x00\x00", strings.Repeat("\x00", 8), strings.Repeat("\x00", 16), strings.Repeat("\x00", 44), string(b)} {
			noTx(t, append(slices.Clone(b), tail...))
			decodes(t, append([]byte(tail), b...))
		}
		// What stands in the room behind them is none of the bytes.
		if y, e := entry.Decode(append(slices.Clone(b), 1, 2, 3)[:len(b)]); e != api.OK || !sameTx(x, y) {
			t.Error(y, e)
		}
	}
	noTx(t, make([]byte, 43))
	noTx(t, make([]byte, 45))
	noTx(t, make([]byte, 60))
	noTx(t, make([]byte, 1<<20))
}

// P12.2: how many there are, as no transaction tells it.
func TestCounts(t *testing.T) {
	wild := []int{-1, -2, -8, -64, math.MinInt, math.MinInt + 1, math.MaxInt, math.MaxInt - 1, 9, 65, 255, 256, 1 << 16, 1<<32 + 1, 1 << 32, 1 << 61, 1 << 60, 1 << 62, -1 << 32, -1<<32 + 1}
	for _, n := range wild {
		for _, room := range []int{0, 8, 16, 72, 520, 1040, 4096} {
			b := append(make([]byte, 44), make([]byte, room)...)
			binary.BigEndian.PutUint64(b[argsAt:], uint64(n))
			noTx(t, b)
			b = append(make([]byte, 44), make([]byte, room)...)
			binary.BigEndian.PutUint64(b[legsAt:], uint64(n))
			// So many legs, and room for them, may be.
			if n != 9 || room != 9*16 {
				noTx(t, b)
			}
		}
	}
	for n := range 1 << 16 {
		for _, at := range []int{keyAt, nameAt} {
			b := append(make([]byte, 44), make([]byte, min(n, 300))...)
			binary.BigEndian.PutUint16(b[at:], uint16(n))
			if x, e := entry.Decode(b); (e == api.OK) != (n <= mostName) || len(x.Key)+len(x.Name) != n && n <= mostName {
				t.Error(at, n, x, e)
			}
		}
	}
	// Fewer and more of each than are told, when something else takes up the difference.
	b := layOut(api.Tx{Args: []int{1, 7, 8, 9}})
	b[argsAt+7] = 1
	// The second arg is then how many legs there are: 7, with bytes for one.
	noTx(t, b)
	b[argsAt+8+8+7] = 1
	// And so it is one leg, of the numbers 8 and 9, behind which there is too much.
	noTx(t, b)
	if x, e := entry.Decode(b[:len(b)-8]); e != api.OK || !sameTx(x, api.Tx{Args: []int{1}, Legs: []api.Leg{{Acct: 8, Amount: 9}}}) {
		t.Error(x, e)
	}
}

// P12.2: every bit that is off makes another transaction, or none.
func TestBits(t *testing.T) {
	x := api.Tx{Seq: 258, Time: -3, Kind: 7, Key: "a key", Name: "sixteen letters!", Args: args(8), Legs: legs(5)}
	b := layOut(x)
	some := map[api.Errno]int{}
	for i := range b {
		for bit := range 8 {
			c := slices.Clone(b)
			c[i] ^= 1 << bit
			some[decodes(t, c)]++
			if y, e := entry.Decode(c); e == api.OK && sameTx(x, y) {
				t.Error("the bytes of one transaction in two ways", i, bit)
			}
		}
	}
	if some[api.OK] < 500 || some[api.ErrForm] < 100 {
		t.Error("too few of a kind", some)
	}
}

// R4: an answer is memory of its own, also behind what becomes of what was handed in, and of other answers.
func TestSharesNothing(t *testing.T) {
	x := full()
	x.Args, x.Legs = spare(args(8)), spare(legs(64))
	want := layOut(x)
	first, _ := entry.Encode(x)
	second, _ := entry.Encode(x)
	scribble(x.Args, 99)
	scribble(x.Legs, api.Leg{Acct: 99, Amount: 99})
	scribble(first, '#')
	if !slices.Equal(second, want) {
		t.Error("shared bytes", second)
	}
	b := spare(want)
	one, _ := entry.Decode(b)
	other, _ := entry.Decode(b)
	scribble(b, '#')
	scribble(one.Args, -77)
	scribble(one.Legs, api.Leg{Acct: -77, Amount: -77})
	if !slices.Equal(layOut(other), want) {
		t.Error("a shared transaction", other)
	}
	if one.Key != "k" || one.Name != "nn" {
		t.Error("shared texts", one)
	}
}

// atRandom: a transaction of any kind, now and then with too much of something.
func atRandom(r *rand.Rand) api.Tx {
	number := func() int {
		if r.Intn(3) == 0 {
			return ends[r.Intn(len(ends))]
		}
		return r.Intn(1000) - 100
	}
	many := func(most int) int {
		if r.Intn(12) == 0 {
			return most - 1 + r.Intn(4)
		}
		return r.Intn(most + 1)
	}
	text := func() string {
		s := make([]byte, many(mostName))
		r.Read(s)
		return string(s)
	}
	x := api.Tx{Seq: number(), Time: number(), Kind: number(), Key: text(), Name: text()}
	for range many(mostArgs) {
		x.Args = append(x.Args, number())
	}
	for range many(mostLegs) {
		x.Legs = append(x.Legs, api.Leg{Acct: number(), Amount: number()})
	}
	return x
}

// spoil: bytes that are nearly those.
func spoil(r *rand.Rand, b []byte) []byte {
	at := r.Intn(len(b))
	switch r.Intn(5) {
	case 0:
		return slices.Insert(b, at, byte(r.Intn(256)))
	case 1:
		return slices.Delete(b, at, at+1)
	case 2:
		return slices.Delete(b, at, min(len(b), at+8))
	case 3:
		// Where a text or a list tells how many it has.
		at = []int{keyAt, keyAt + 1, nameAt, nameAt + 1, argsAt + 7, legsAt + 7}[r.Intn(6)]
		b[at] = byte(r.Intn(20))
		return b
	}
	b[at] ^= 1 << r.Intn(8)
	return b
}

// P12.1, P12.2: transactions of any kind, and bytes that are nearly theirs.
func TestAtRandom(t *testing.T) {
	r := rand.New(rand.NewSource(12))
	encoded, decoded := map[api.Errno]int{}, map[api.Errno]int{}
	for range 20000 {
		x := atRandom(r)
		b, e := encodes(t, x)
		encoded[e]++
		if e != api.OK {
			noTx(t, layOut(x))
			continue
		}
		both(t, x)
		decoded[decodes(t, spoil(r, b))]++
	}
	if min(encoded[api.OK], encoded[api.ErrForm], decoded[api.OK], decoded[api.ErrForm]) < 2000 {
		t.Error("too few of a kind", encoded, decoded)
	}
}

// P12.1, P12.2: held against the words.
func FuzzEntry(f *testing.F) {
	f.Add(make([]byte, 44))
	f.Add(layOut(full()))
	f.Add(layOut(api.Tx{Key: names[13], Name: names[13], Args: args(8), Legs: legs(64)}))
	f.Add(layOut(api.Tx{Key: names[9], Args: args(9), Legs: legs(2)}))
	f.Add(layOut(api.Tx{Name: longNames[0], Legs: legs(65)}))
	f.Add([]byte("any bytes, which are no transaction's"))
	f.Fuzz(func(t *testing.T, b []byte) {
		decodes(t, b)
		// The same bytes as what a transaction has.
		var x api.Tx
		for i, c := range b {
			switch i % 8 {
			case 0:
				x.Args = append(x.Args, ends[int(c)%len(ends)])
			case 1, 2, 3, 4, 5:
				x.Legs = append(x.Legs, api.Leg{Acct: int(c), Amount: ends[int(c)%len(ends)] + i})
			case 6:
				x.Key, x.Name = x.Key+string(b[i:i+1]), x.Key
			}
			x.Seq, x.Time, x.Kind = x.Time, x.Kind, x.Seq*256-int(c)
		}
		if c, e := encodes(t, x); e == api.OK {
			both(t, x)
			decodes(t, append(c, b...))
		}
	})
}
