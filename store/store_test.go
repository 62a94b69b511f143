package store_test

import (
	"bytes"
	"math"
	"reflect"
	"slices"
	"strings"
	"testing"

	"prebend/api"
	"prebend/book"
	"prebend/disk"
	"prebend/entry"
	"prebend/frame"
	"prebend/snap"
	"prebend/store"
)

const most = 1<<32 - 1

func config(slot, log int) api.Config {
	return api.Config{Nodes: 4, Mode: api.Easy, Slot: slot, Log: log}
}

func diskFor(c api.Config) *disk.Disk { return disk.New(2*c.Slot + c.Log) }

func fund(name string) api.Tx { return api.Tx{Kind: api.TxFund, Name: name, Args: []int{-1, 0}} }

func tx(kind int, args ...int) api.Tx { return api.Tx{Kind: kind, Args: args} }

// is: a call answered that.
func is(t *testing.T, what string, e, want api.Errno) {
	t.Helper()
	if e != want {
		t.Errorf("%s is %d; it should be %d", what, e, want)
	}
}

// image: all sectors of a disk.
func image(d *disk.Disk) []byte {
	var s []byte
	for i := range d.Size() {
		b, _ := d.Read(i)
		s = append(s, b...)
	}
	return s
}

// blank: the sectors of a disk on which nothing was written.
func blank(d *disk.Disk) []byte { return make([]byte, 32*d.Size()) }

// lay: a record on a disk, from a sector on.
func lay(t *testing.T, d *disk.Disk, at, epoch, seq int, b []byte) {
	t.Helper()
	s, e := frame.Pack(epoch, seq, b)
	is(t, "Pack", e, api.OK)
	for i, sector := range slices.Collect(slices.Chunk(s, 32)) {
		is(t, "Write", d.Write(at+i, sector), api.OK)
	}
}

// laid: what a disk would have, if it had that record too, from a sector on.
func laid(t *testing.T, s []byte, at, epoch, seq int, b []byte) []byte {
	t.Helper()
	record, e := frame.Pack(epoch, seq, b)
	is(t, "Pack", e, api.OK)
	s = slices.Clone(s)
	if len(s) < at*32+len(record) {
		t.Fatal("no room for a record at", at)
	}
	copy(s[at*32:], record)
	return s
}

// has: a disk is just that, and all of it lasts.
func has(t *testing.T, what string, d *disk.Disk, want []byte) {
	t.Helper()
	s := image(d)
	for i := 0; i < len(want); i += 32 {
		if !bytes.Equal(s[i:i+32], want[i:i+32]) {
			t.Fatalf("%s: sector %d is\n%x; it should be\n%x", what, i/32, s[i:i+32], want[i:i+32])
		}
	}
	if d.Cached() != 0 {
		t.Error(what, "cached", d.Cached())
	}
}

// snapOf, entryOf: the bytes of what has any.
func snapOf(t *testing.T, s api.State) []byte {
	t.Helper()
	b, e := snap.Encode(s)
	is(t, "a state's bytes", e, api.OK)
	return b
}

func entryOf(t *testing.T, x api.Tx) []byte {
	t.Helper()
	b, e := entry.Encode(x)
	is(t, "a transaction's bytes", e, api.OK)
	return b
}

// sectorsOf: as chapter 6's words have it.
func sectorsOf(b []byte) int {
	n := 1
	for n*24 < len(b)+6 {
		n++
	}
	return n
}

// deep: the same state in memory of its own, without empty lists.
func deep(s api.State) api.State {
	s.Funds = slices.Concat(nil, s.Funds)
	s.Allocs = slices.Concat(nil, s.Allocs)
	s.Rates = slices.Concat(nil, s.Rates)
	s.Jobs = slices.Concat(nil, s.Jobs)
	s.Keys = slices.Concat(nil, s.Keys)
	for k := range s.Jobs {
		s.Jobs[k].Draws = slices.Concat(nil, s.Jobs[k].Draws)
	}
	return s
}

// sameState: are they the same, an empty list being as good as none?
func sameState(x, y api.State) bool { return reflect.DeepEqual(deep(x), deep(y)) }

// stands: a Store's state is that.
func stands(t *testing.T, what string, s *store.Store, want api.State) {
	t.Helper()
	if got := s.State(); !sameState(got, want) {
		t.Fatalf("%s: the state is %+v; it should be %+v", what, got, want)
	}
}

// after: a transaction with its number and its legs, and the state behind it.
func after(t *testing.T, s api.State, x api.Tx) (api.Tx, api.State) {
	t.Helper()
	full, e := book.Fill(s, x)
	if e != api.OK {
		t.Fatalf("Fill(%+v) is %d", x, e)
	}
	next, e := book.Apply(s, full)
	if e != api.OK {
		t.Fatalf("Apply(%+v) is %d", full, e)
	}
	return full, next
}

// behindAll: the state behind these transactions.
func behindAll(t *testing.T, s api.State, list ...api.Tx) api.State {
	t.Helper()
	for _, x := range list {
		_, s = after(t, s, x)
	}
	return s
}

// formatted: a new disk for a config, on which lies what Format writes.
func formatted(t *testing.T, c api.Config) *disk.Disk {
	t.Helper()
	d := diskFor(c)
	is(t, "Format", store.Format(d, c), api.OK)
	return d
}

// opened: an Open that is OK.
func opened(t *testing.T, d *disk.Disk, c api.Config) *store.Store {
	t.Helper()
	s, e := store.Open(d, c)
	if s == nil || e != api.OK {
		t.Fatalf("Open is %v, %d", s, e)
	}
	return s
}

// begun: a Store on a new disk.
func begun(t *testing.T, c api.Config) (*disk.Disk, *store.Store) {
	t.Helper()
	d := formatted(t, c)
	return d, opened(t, d, c)
}

// closed: an Open that is refused, and tells nothing else.
func closed(t *testing.T, what string, d *disk.Disk, c api.Config, want api.Errno) {
	t.Helper()
	s, e := store.Open(d, c)
	if s != nil || e != want {
		t.Errorf("%s: Open is %v, %d; it should be %d", what, s, e, want)
	}
}

// do: these may all be done.
func do(t *testing.T, s *store.Store, list ...api.Tx) {
	t.Helper()
	for _, x := range list {
		if e := s.Do(x); e != api.OK {
			t.Fatalf("Do(%+v) is %d", x, e)
		}
	}
}

// near: these numbers, and some at all ends.
func near(list ...int) []int {
	return append(list, math.MinInt, math.MinInt+1, -1, 0, 1<<31, 1<<32, 1<<62, math.MaxInt-1, math.MaxInt)
}

// P22.1, P22.2: of configs that may not be chapter 21's error, whatever the disk is; nothing is written.
func TestConfigs(t *testing.T) {
	d := formatted(t, config(20, 60))
	was := image(d)
	wrong := func(c api.Config) {
		t.Helper()
		for _, on := range []*disk.Disk{nil, {}, disk.New(0), disk.New(min(max(2*c.Slot+c.Log, 0), 1024)), d} {
			is(t, "Format of a wrong config", store.Format(on, c), api.ErrArg)
			closed(t, "a wrong config", on, c, api.ErrArg)
		}
	}
	for _, n := range near(33, 34) {
		wrong(api.Config{Nodes: n, Mode: api.Easy, Slot: 20, Log: 60})
		wrong(api.Config{Nodes: 4, Mode: n, Slot: 20, Log: 60})
	}
	for _, n := range near(1, 3, 401, 510) {
		wrong(config(n, 60))
	}
	for _, n := range near(1, 59, 1001, 1016) {
		wrong(config(4, n))
	}
	for _, c := range []api.Config{{}, config(13, 1000), config(400, 225), config(399, 227), config(10, 59), config(3, 100)} {
		wrong(c)
	}
	has(t, "wrong configs", d, was)
}

// P22.1, P22.2: a disk has just twice Slot and Log sectors.
func TestDisks(t *testing.T) {
	for _, c := range []api.Config{config(4, 60), config(4, 61), config(5, 60), config(20, 60), config(12, 1000), config(400, 224), {Nodes: 32, Mode: api.Strict, Slot: 399, Log: 226}} {
		want := c.Slot + c.Slot + c.Log
		for _, sectors := range []int{0, 1, c.Slot, c.Log, c.Slot + c.Log, 2*c.Log + c.Slot, want - 32, want - 2, want - 1, want, want + 1, want + 2, 1024} {
			d := disk.New(sectors)
			if d.Size() != want {
				was := image(d)
				is(t, "Format of another disk", store.Format(d, c), api.ErrArg)
				closed(t, "another disk", d, c, api.ErrArg)
				d.Fuse(0)
				is(t, "Format of another disk", store.Format(d, c), api.ErrArg)
				closed(t, "another disk", d, c, api.ErrArg)
				has(t, "another disk", d, was)
				continue
			}
			closed(t, "an empty disk", d, c, api.ErrLost)
			has(t, "an empty disk", d, blank(d))
			is(t, "Format", store.Format(d, c), api.OK)
			if s := opened(t, d, c); s.Room() != c.Log {
				t.Error(c, s.Room())
			}
		}
		is(t, "Format of nil", store.Format(nil, c), api.ErrArg)
		closed(t, "nil", nil, c, api.ErrArg)
		closed(t, "zero", &disk.Disk{}, c, api.ErrArg)
	}
}

// P22.1: New's bytes lie in the first place, with epoch 1 and number 0, and last.
func TestFormat(t *testing.T) {
	for _, c := range []api.Config{config(4, 60), config(20, 60), config(400, 224), config(12, 1000)} {
		d := formatted(t, c)
		d.Crash(0, -1, 0)
		has(t, "Format", d, laid(t, blank(d), 0, 1, 0, append(make([]byte, 23), append([]byte{1}, make([]byte, 40)...)...)))
		has(t, "Format", d, laid(t, blank(d), 0, 1, 0, snapOf(t, book.New())))
		stands(t, "Format", opened(t, d, c), api.State{Next: 1})
	}
}

// P22.1: a Format that the disk refuses anything of: there are three sectors, and a Flush.
func TestFormatRefused(t *testing.T) {
	c := config(4, 60)
	for n := range 6 {
		d := diskFor(c)
		d.Fuse(n)
		want := map[bool]api.Errno{true: api.ErrDown, false: api.OK}[n < 4]
		is(t, "Format", store.Format(d, c), want)
		d.Crash(0, -1, 0)
		if n < 4 {
			closed(t, "a Format that was refused", d, c, api.ErrLost)
			has(t, "a Format that was refused", d, blank(d))
		} else {
			stands(t, "Format", opened(t, d, c), book.New())
		}
	}
}

// P22.2: a checkpoint that isn't whole is none; one that lies in the other place is one.
func TestLost(t *testing.T) {
	c := config(20, 60)
	d := formatted(t, c)
	is(t, "Write", d.Write(1, make([]byte, 32)), api.OK)
	was := image(d)
	closed(t, "not whole", d, c, api.ErrLost)
	if !bytes.Equal(was, image(d)) {
		t.Error("an Open that is refused writes")
	}
	d = diskFor(c)
	lay(t, d, 20, 7, 3, snapOf(t, book.New()))
	closed(t, "for another config", d, config(10, 80), api.ErrLost)
	stands(t, "the second place", opened(t, d, c), book.New())
	d = diskFor(c)
	lay(t, d, 40, 7, 3, snapOf(t, book.New()))
	closed(t, "in the log", d, c, api.ErrLost)
}

// P22.2: Open has a checkpoint, and the records behind it; the state behind all is the next checkpoint, in the other place, and the log is empty.
func TestOpen(t *testing.T) {
	c := config(20, 60)
	first := behindAll(t, book.New(), fund("a"), fund("b"))
	for count := range 4 {
		for place := range 2 {
			d, state, at := diskFor(c), first, 40
			lay(t, d, (1-place)*20, 3, 1, snapOf(t, book.New()))
			lay(t, d, place*20, 5, 900, snapOf(t, first))
			for i := range count {
				var full api.Tx
				full, state = after(t, state, fund(string(rune('c'+i))))
				lay(t, d, at, 5, 901+i, entryOf(t, full))
				at += sectorsOf(entryOf(t, full))
			}
			is(t, "Flush", d.Flush(), api.OK)
			want := laid(t, image(d), (1-place)*20, 6, 900+count, snapOf(t, state))
			s := opened(t, d, c)
			stands(t, "Open", s, state)
			has(t, "Open", d, want)
			if s.Room() != 60 || s.State().Seq != 2+count {
				t.Error(s.Room(), s.State())
			}
			want = laid(t, image(d), place*20, 7, 900+count, snapOf(t, state))
			stands(t, "Open again", opened(t, d, c), state)
			has(t, "Open again", d, want)
		}
	}
}

// P22.2: what lies behind a gap, or has another epoch, is no record, whatever it is.
func TestOpenOtherRecords(t *testing.T) {
	c := config(4, 60)
	full, _ := after(t, book.New(), fund("a"))
	for _, r := range [][3]int{{8, 2, 2}, {8, 1, 1}, {8, 1, 3}, {8, 2, 0}, {9, 2, 1}} {
		d := formatted(t, c)
		lay(t, d, r[0], r[1], r[2], entryOf(t, full))
		s := opened(t, d, c)
		if isOne := r == [3]int{8, 1, 1}; isOne != (len(s.State().Funds) == 1) {
			t.Error(r, s.State())
		}
	}
}

// refusedOpen: a disk with that checkpoint, and these records, has no state; nothing is written to it, nor does the disk refuse anything.
func refusedOpen(t *testing.T, what string, checkpoint []byte, records ...[]byte) {
	t.Helper()
	c := config(20, 60)
	for _, epoch := range []int{5, most} {
		d, at := diskFor(c), 40
		lay(t, d, 20, epoch, 7, checkpoint)
		for i, b := range records {
			lay(t, d, at, epoch, 8+i, b)
			at += sectorsOf(b)
		}
		is(t, "Flush", d.Flush(), api.OK)
		was := image(d)
		closed(t, what, d, c, api.ErrForm)
		d.Fuse(0)
		closed(t, what, d, c, api.ErrForm)
		has(t, what, d, was)
	}
}

// P22.2: ErrForm, if the checkpoint is no state.
func TestNoState(t *testing.T) {
	good := snapOf(t, behindAll(t, book.New(), fund("a"), tx(api.TxAlloc, 0, 0, 9, 5)))
	refusedOpen(t, "nothing", nil)
	refusedOpen(t, "text", []byte("a state"))
	refusedOpen(t, "too short", good[:len(good)-1])
	refusedOpen(t, "too long", append(slices.Clone(good), 0))
	refusedOpen(t, "a transaction", entryOf(t, fund("a")))
	for at := 24; at < 32; at++ {
		many := make([]byte, 400)
		many[at] = 9 // so many funds, or more
		refusedOpen(t, "too many", many)
	}
	full, _ := after(t, book.New(), fund("a"))
	refusedOpen(t, "nothing, and a record", nil, entryOf(t, full))
}

// P22.2: ErrForm, if a record is no transaction that may be done to the state behind those ahead.
func TestNoTransaction(t *testing.T) {
	one := snapOf(t, book.New())
	a, next := after(t, book.New(), fund("a"))
	b, next := after(t, next, tx(api.TxAlloc, 0, 0, 9, 5))
	refusedOpen(t, "nothing", one, nil)
	refusedOpen(t, "text", one, []byte("a transaction"))
	refusedOpen(t, "a state", one, one)
	refusedOpen(t, "too short", one, entryOf(t, a)[:len(entryOf(t, a))-1])
	refusedOpen(t, "too long", one, append(entryOf(t, a), 0))
	refusedOpen(t, "the second is nothing", one, entryOf(t, a), nil)
	refusedOpen(t, "the first is nothing", one, nil, entryOf(t, a))
	refusedOpen(t, "the same again", one, entryOf(t, a), entryOf(t, a))
	refusedOpen(t, "the second ahead of the first", one, entryOf(t, b), entryOf(t, a))
	refusedOpen(t, "the third is no more", one, entryOf(t, a), entryOf(t, b), entryOf(t, b))
	refusedOpen(t, "done already", snapOf(t, next), entryOf(t, a))
	for _, change := range []func(x *api.Tx){
		func(x *api.Tx) { x.Seq = 0 },
		func(x *api.Tx) { x.Seq = 1 },
		func(x *api.Tx) { x.Seq = 3 },
		func(x *api.Tx) { x.Legs = nil },
		func(x *api.Tx) { x.Legs[0], x.Legs[1] = x.Legs[1], x.Legs[0] },
		func(x *api.Tx) { x.Legs[0].Amount--; x.Legs[1].Amount++ },
		func(x *api.Tx) { x.Legs = append(x.Legs, api.Leg{}) },
		func(x *api.Tx) { x.Args[3]++ },
		func(x *api.Tx) { x.Args[0] = 1 },
		func(x *api.Tx) { x.Args = x.Args[:3] },
		func(x *api.Tx) { x.Time = -1 },
		func(x *api.Tx) { x.Kind = 16 },
		func(x *api.Tx) { x.Name = "a" },
	} {
		x := b
		x.Args, x.Legs = slices.Clone(b.Args), slices.Clone(b.Legs)
		change(&x)
		refusedOpen(t, "not as it is filled", one, entryOf(t, a), entryOf(t, x))
	}
	c := config(20, 60)
	d := diskFor(c)
	lay(t, d, 20, 5, 7, one)
	lay(t, d, 40, 5, 8, entryOf(t, a))
	lay(t, d, 40+sectorsOf(entryOf(t, a)), 5, 9, entryOf(t, b))
	stands(t, "as they are filled", opened(t, d, c), next)
}

// P22.2: the Checkpoint's errors: the state behind all does not fit, or there are no more epochs, which is told first.
func TestOpenCheckpointRefused(t *testing.T) {
	c := config(4, 60) // a state has 90 bytes at most
	a, one := after(t, book.New(), fund("abcdefgh"))
	b, _ := after(t, one, fund("b"))
	long, _ := after(t, book.New(), fund("abcdefghi"))
	for _, x := range []struct {
		epoch   int
		records []api.Tx
		want    api.Errno
	}{
		{1, []api.Tx{a}, api.OK},
		{1, []api.Tx{long}, api.ErrFull},
		{1, []api.Tx{a, b}, api.ErrFull},
		{most, []api.Tx{a}, api.ErrOver},
		{most, nil, api.ErrOver},
		{most, []api.Tx{long}, api.ErrOver},
		{most - 1, []api.Tx{a}, api.OK},
	} {
		d, at := diskFor(c), 8
		lay(t, d, 0, x.epoch, 0, snapOf(t, book.New()))
		for i, r := range x.records {
			lay(t, d, at, x.epoch, i+1, entryOf(t, r))
			at += sectorsOf(entryOf(t, r))
		}
		is(t, "Flush", d.Flush(), api.OK)
		was := image(d)
		if x.want == api.OK {
			stands(t, "Open", opened(t, d, c), one)
			continue
		}
		closed(t, "refused", d, c, x.want)
		has(t, "refused", d, was)
	}
	d := formatted(t, c)
	lay(t, d, 67, most, 5, nil) // any sector tells an epoch
	closed(t, "no more epochs", d, c, api.ErrOver)
	if d = formatted(t, c); d.Write(4, bytes.Repeat([]byte{255}, 32)) != api.OK {
		t.Error("Write")
	}
	closed(t, "no more epochs", d, c, api.ErrOver)
}

// P22.2: when the disk refuses anything of the Checkpoint there is no Store, and all is there behind a crash, whatever it keeps.
func TestOpenDown(t *testing.T) {
	c := config(20, 60)
	list := []api.Tx{fund("a"), fund("b"), tx(api.TxAlloc, 1, 0, 9, 5)}
	want := behindAll(t, book.New(), list...)
	sectors := sectorsOf(snapOf(t, want))
	for n := range sectors + 2 {
		for keep := range 1 << n {
			d, s := begun(t, c)
			do(t, s, list...)
			d.Fuse(n)
			if n > sectors {
				s = opened(t, d, c)
				is(t, "the fuse", d.Flush(), api.ErrDown)
				stands(t, "Open", s, want)
				break
			}
			closed(t, "refused", d, c, api.ErrDown)
			closed(t, "refused again", d, c, api.ErrDown)
			d.Crash(keep, keep%5-1, keep%32)
			stands(t, "behind a crash", opened(t, d, c), want)
		}
	}
}

// P22.3: the state is that behind all that was OK, and nobody else's.
func TestState(t *testing.T) {
	_, s := begun(t, config(100, 100))
	list := []api.Tx{fund("a"), tx(api.TxAlloc, 0, 0, 9, 500), tx(api.TxRate, 0, 0, 2), tx(api.TxSubmit, 0, 3, 10, 0, 0, 2), tx(api.TxSubmit, 0, 1, 1, 0, 0, 2), tx(api.TxStart, 1, 7), tx(api.TxDeposit, 0, 3)}
	list[1].Key, list[6].Key = "k", "l"
	want := book.New()
	stands(t, "New", s, want)
	for _, x := range list {
		do(t, s, x)
		_, want = after(t, want, x)
		stands(t, "Do", s, want)
	}
	for range 2 {
		spoil(s.State())
		stands(t, "spoilt", s, want)
	}
	one, other := s.State(), s.State()
	spoil(one)
	if !sameState(other, want) {
		t.Error("two answers share memory")
	}
}

// spoil: all of a state's lists are something else, spare room too.
func spoil(s api.State) {
	for i, f := range s.Funds[:cap(s.Funds)] {
		s.Funds[:cap(s.Funds)][i] = api.Fund{Name: f.Name + "?", Parent: 77}
	}
	for i := range s.Allocs[:cap(s.Allocs)] {
		s.Allocs[:cap(s.Allocs)][i] = api.Alloc{Fund: 77, Avail: 77}
	}
	for i := range s.Rates[:cap(s.Rates)] {
		s.Rates[:cap(s.Rates)][i] = api.Rate{QoS: 77}
	}
	for i, j := range s.Jobs[:cap(s.Jobs)] {
		for k := range j.Draws[:cap(j.Draws)] {
			j.Draws[:cap(j.Draws)][k] = api.Draw{Alloc: 77, Amount: 77}
		}
		s.Jobs[:cap(s.Jobs)][i] = api.Job{ID: 77, State: 77}
	}
	for i := range s.Keys[:cap(s.Keys)] {
		s.Keys[:cap(s.Keys)][i] = "?"
	}
}

// P22.3: a transaction is one record more, as Fill answers it, whatever number and legs it was given with, and lasts.
func TestDo(t *testing.T) {
	c := config(100, 300)
	d, s := begun(t, c)
	state, want, at := book.New(), image(d), 200
	list := everyKind()
	for i, x := range list {
		full, next := after(t, state, x)
		given := x
		given.Args = append(slices.Clone(x.Args), 77, 78)[:len(x.Args)]
		given.Seq, given.Legs = 1-i, []api.Leg{{Acct: 5, Amount: i}, {Acct: 1 << 40}, {Amount: -9}}[:i%3]
		do(t, s, given)
		record := entryOf(t, full)
		want = laid(t, want, at, 2, i+1, record)
		at += sectorsOf(record)
		has(t, "Do", d, want)
		stands(t, "Do", s, next)
		if s.Room() != 500-at {
			t.Error(x, s.Room())
		}
		if !slices.Equal(given.Args[:len(x.Args)+2], append(slices.Clone(x.Args), 77, 78)) {
			t.Error("changed", given.Args)
		}
		for k := range given.Args {
			given.Args[k] = 99
		}
		stands(t, "Do", s, next)
		state = next
	}
	d.Crash(0, -1, 0)
	stands(t, "behind a crash", opened(t, d, c), state)
}

// everyKind: transactions that may be done one behind the other, some of each kind.
func everyKind() []api.Tx {
	list := []api.Tx{
		fund("root"), fund("0123456789abcdef"), tx(api.TxAlloc, 0, 0, 50, 100), tx(api.TxAlloc, 1, 0, 60, 100), tx(api.TxDeposit, 0, 7),
		tx(api.TxWithdraw, 0, 3), tx(api.TxTransfer, 0, 1, 4), tx(api.TxRate, 0, 0, 2),
		tx(api.TxSubmit, 0, 3, 10, 0, 0, 2), tx(api.TxSubmit, 1, 1, 5, 0, 9, 2), tx(api.TxSubmit, 0, 1, 5, 0, 9, 2),
		tx(api.TxHold, 1), tx(api.TxFree, 1), tx(api.TxStart, 1, 7), tx(api.TxStart, 2, 8), tx(api.TxCancel, 3),
		tx(api.TxRequeue, 2), tx(api.TxEnd, 1, 4), tx(api.TxRefund, 1, 5), {Time: 55, Kind: api.TxExpire}, tx(api.TxHold, 2),
	}
	list[0].Key, list[2].Key, list[18].Key = "k", "0123456789abcdef", "l"
	return list
}

// P22.3: what Fill refuses is told as Fill tells it, and nothing is written, or kept; so it is of a Store that is down, or full.
func TestDoRefused(t *testing.T) {
	c := config(50, 100)
	d, s := begun(t, c)
	do(t, s, everyKind()[:14]...)
	state, was, room := s.State(), image(d), s.Room()
	list := []api.Tx{
		{}, tx(-1), tx(16), tx(math.MaxInt), tx(api.TxFund), fund("root"), fund(""), fund("0123456789abcdefg"), {Time: -1, Kind: api.TxExpire},
		{Kind: api.TxDeposit, Key: "k", Args: []int{0, 1}}, {Kind: api.TxDeposit, Name: "n", Args: []int{0, 1}}, {Kind: api.TxHold, Key: "new", Args: []int{2}},
		tx(api.TxExpire), tx(api.TxHold, 1), tx(api.TxHold, 99), tx(api.TxWithdraw, 0, 1<<40), tx(api.TxDeposit, 9, 1), tx(api.TxDeposit, 0, 1<<60),
		tx(api.TxStart, 2, 1), tx(api.TxStart, 2, 15), tx(api.TxEnd, 1, 11), tx(api.TxRefund, 1, 1), tx(api.TxAlloc, 0, 9, 9, 1), tx(api.TxRate, 8, 0, 0),
	}
	seen := map[api.Errno]bool{}
	for _, x := range list {
		_, want := book.Fill(state, x)
		if want == api.OK {
			t.Fatal(x, "may be done")
		}
		seen[want] = true
		is(t, "Do", s.Do(x), want)
		x.Legs, x.Seq = []api.Leg{{Acct: 0, Amount: -1}, {Acct: 1, Amount: 1}}, state.Seq+1
		is(t, "Do", s.Do(x), want)
		d.Fuse(0)
		is(t, "Do", s.Do(x), want)
		d.Fuse(-1)
	}
	for _, e := range []api.Errno{api.ErrArg, api.ErrOver, api.ErrNone, api.ErrTwice, api.ErrFunds, api.ErrState, api.ErrNodes} {
		if !seen[e] {
			t.Error("nothing was refused by", e)
		}
	}
	has(t, "refused", d, was)
	stands(t, "refused", s, state)
	if s.Room() != room {
		t.Error(s.Room())
	}
	d.Fuse(0)
	is(t, "Do", s.Do(fund("new")), api.ErrDown)
	for _, x := range list {
		_, want := book.Fill(state, x)
		is(t, "Do of one that is down", s.Do(x), want)
	}
	is(t, "Do", s.Do(fund("new")), api.ErrDown)
	stands(t, "down", s, state)
}

// P22.3: ErrFull, if the state behind it, as a checkpoint, has more bytes than Slot sectors: of four 90.
func TestFull(t *testing.T) {
	for size := 1; size <= 16; size++ {
		d, s := begun(t, config(4, 60))
		was, x := image(d), fund(strings.Repeat("n", size))
		if 64+2+size+16 <= 4*24-6 {
			do(t, s, x)
			continue
		}
		is(t, "Do", s.Do(x), api.ErrFull)
		d.Fuse(0)
		is(t, "Do", s.Do(x), api.ErrFull)
		d.Fuse(-1)
		has(t, "full", d, was)
		stands(t, "full", s, book.New())
		if s.Room() != 60 {
			t.Error(s.Room())
		}
		do(t, s, fund("nnnnnnnn"))
		is(t, "Fill's error ahead of it", s.Do(fund("nnnnnnnn")), api.ErrArg)
		is(t, "Do", s.Do(fund("b")), api.ErrFull)
		d.Fuse(0)
		is(t, "Checkpoint", s.Checkpoint(), api.ErrDown)
		is(t, "of one that is down", s.Do(fund("b")), api.ErrFull)
	}
}

// P22.3: states grow up to the last byte that Slot sectors have, for every Slot.
func TestFullOfEachSlot(t *testing.T) {
	count := map[bool]int{}
	for slot := 4; slot <= 60; slot++ {
		_, s := begun(t, config(slot, 60))
		state := book.New()
		for i := range 60 {
			x := fund(strings.Repeat(string(rune('a'+i%26)), 1+(i*slot)%16))
			if i%4 > 0 && len(state.Funds) > 0 {
				x = tx(api.TxAlloc, 0, 0, 9, 1)
			}
			if x.Key = strings.Repeat("k", i%3*(slot%8)); i%5 == 0 || slices.Contains(state.Keys, x.Key) {
				x.Key = ""
			}
			full, e := book.Fill(state, x)
			if e != api.OK {
				is(t, "Do", s.Do(x), e)
				continue
			}
			next, _ := book.Apply(state, full)
			fits := len(snapOf(t, next))+6 <= 24*slot
			count[fits]++
			is(t, "Do", s.Do(x), map[bool]api.Errno{true: api.OK, false: api.ErrFull}[fits])
			if fits {
				state = next
			}
			stands(t, "growing", s, state)
		}
	}
	if count[true] < 800 || count[false] < 800 {
		t.Error(count)
	}
}

// P22.3: a state that is full may still lose something: a job ends, and its lien is free.
func TestFullEnds(t *testing.T) {
	list := []api.Tx{fund("a"), tx(api.TxAlloc, 0, 0, 50, 100), tx(api.TxSubmit, 0, 3, 10, 0, 0, 2), tx(api.TxStart, 1, 7)}
	state := behindAll(t, book.New(), list...)
	for _, last := range []api.Tx{tx(api.TxEnd, 1, 4), tx(api.TxRequeue, 1)} {
		_, s := begun(t, config(sectorsOf(snapOf(t, state)), 60))
		do(t, s, list...)
		is(t, "Do", s.Do(tx(api.TxSubmit, 0, 1, 1, 0, 0, 2)), api.ErrFull)
		do(t, s, last)
		if s.State().Allocs[0].Liened != 0 {
			t.Error(s.State())
		}
	}
}

// filled: a Store whose log has just so many sectors left, its state, and how many records there were. A deposit takes five sectors, to hold a job or to free it three.
func filled(t *testing.T, c api.Config, room int) (*disk.Disk, *store.Store, api.State, int) {
	t.Helper()
	d, s := begun(t, c)
	list := []api.Tx{fund("a"), tx(api.TxAlloc, 0, 0, 9, 5), tx(api.TxSubmit, 0, 1, 1, 0, 0, 0)}
	do(t, s, list...)
	is(t, "Checkpoint", s.Checkpoint(), api.OK)
	kind := api.TxHold
	for i := 0; i < 20 && s.Room() > room; i++ {
		x := tx(api.TxDeposit, 0, 1)
		if (s.Room()-room)%5 > 0 {
			x = tx(kind, 1)
			kind = api.TxHold + api.TxFree - kind
		}
		list = append(list, x)
		do(t, s, x)
	}
	if s.Room() != room {
		t.Fatal("room", s.Room(), "of", room)
	}
	return d, s, s.State(), len(list)
}

// P22.3: when a record has no room, there is a Checkpoint of the state ahead of it first; when it has just that room, there is none.
func TestLogIsFull(t *testing.T) {
	c := config(20, 60)
	for room := range 8 {
		d, s, state, seq := filled(t, c, room)
		full, next := after(t, state, tx(api.TxDeposit, 0, 9))
		want := image(d)
		if room >= 5 {
			want = laid(t, want, 100-room, 3, seq+1, entryOf(t, full))
		} else {
			want = laid(t, want, 20, 4, seq, snapOf(t, state))
			want = laid(t, want, 40, 4, seq+1, entryOf(t, full))
		}
		do(t, s, tx(api.TxDeposit, 0, 9))
		has(t, "Do", d, want)
		stands(t, "Do", s, next)
		if s.Room() != map[bool]int{true: room - 5, false: 55}[room >= 5] {
			t.Error(room, s.Room())
		}
		stands(t, "behind a crash", opened(t, d, c), next)
	}
}

// P22.3: what is refused in a log that is full makes no Checkpoint.
func TestLogIsFullAndRefused(t *testing.T) {
	c := config(10, 60) // a state has 234 bytes at most; that of filled has 227
	withKey := tx(api.TxDeposit, 0, 1)
	withKey.Key = "keykey"
	for room := range 5 {
		d, s, state, _ := filled(t, c, room)
		was := image(d)
		for _, x := range []struct {
			x    api.Tx
			want api.Errno
		}{
			{tx(api.TxDeposit, 0, 0), api.ErrArg},
			{tx(api.TxWithdraw, 0, 1<<40), api.ErrFunds},
			{fund("a"), api.ErrArg},
			{fund("b"), api.ErrFull},
			{withKey, api.ErrFull},
			{tx(api.TxSubmit, 0, 1, 1, 0, 0, 0), api.ErrFull},
		} {
			is(t, "Do", s.Do(x.x), x.want)
		}
		has(t, "refused", d, was)
		stands(t, "refused", s, state)
		if s.Room() != room {
			t.Error(s.Room())
		}
		do(t, s, tx(api.TxDeposit, 0, 1))
		withKey.Key = withKey.Key[:5]
		do(t, s, withKey)
		withKey.Key = "keykey"
	}
}

// P22.3: many transactions go on and on, with a checkpoint whenever the log is full.
func TestManyTransactions(t *testing.T) {
	c := config(20, 61)
	d, s := begun(t, c)
	list := []api.Tx{fund("a"), tx(api.TxAlloc, 0, 0, 9, 5), tx(api.TxAlloc, 0, 0, 9, 5)}
	do(t, s, list...)
	state, room, checkpoints := s.State(), s.Room(), 0
	for i := range 500 {
		x := tx(api.TxTransfer, i%2, 1-i%2, 1)
		full, next := after(t, state, x)
		do(t, s, x)
		if room -= sectorsOf(entryOf(t, full)); room < 0 {
			room, checkpoints = 61-sectorsOf(entryOf(t, full)), checkpoints+1
		}
		if s.Room() != room {
			t.Fatal(i, s.Room(), room)
		}
		state = next
	}
	d.Crash(0, -1, 0)
	stands(t, "behind a crash", opened(t, d, c), state)
	if checkpoints < 20 {
		t.Error(checkpoints)
	}
}

// P22.3: the greatest records fit into the least log: 48 legs of a job that has drawn on 16 allocations.
func TestGreatRecords(t *testing.T) {
	c := config(400, 60)
	d, s := begun(t, c)
	do(t, s, fund("a"))
	for range 16 {
		do(t, s, tx(api.TxAlloc, 0, 0, 9, 3))
	}
	do(t, s, tx(api.TxSubmit, 0, 16, 1, 0, 0, 3), tx(api.TxStart, 1, 1<<16-1))
	for range 3 {
		do(t, s, tx(api.TxRequeue, 1), tx(api.TxStart, 1, 1<<16-1))
	}
	do(t, s, tx(api.TxEnd, 1, 1))
	do(t, s, tx(api.TxSubmit, 0, 1, 1, 0, 0, 0))
	for range 16 {
		do(t, s, tx(api.TxRefund, 1, 3))
	}
	state := s.State()
	if state.Allocs[15] != (api.Alloc{Until: 9, Avail: 3}) {
		t.Error(state.Allocs[15])
	}
	do(t, s, api.Tx{Time: 9, Kind: api.TxExpire})
	state = s.State()
	d.Crash(0, -1, 0)
	stands(t, "behind a crash", opened(t, d, c), state)
	if state.World != 0 {
		t.Error(state.World)
	}
}

// P22.3: the greatest states fit into the greatest Slot.
func TestGreatState(t *testing.T) {
	c := config(400, 224)
	d, s := begun(t, c)
	for i := range 8 {
		x := fund("0123456789abcde" + string(rune('a'+i)))
		x.Key = x.Name
		do(t, s, x)
	}
	for i := range 16 {
		do(t, s, tx(api.TxAlloc, i%8/8, 0, 9, 1<<30), tx(api.TxRate, i%8, i, 1))
	}
	for range 16 {
		do(t, s, tx(api.TxSubmit, 0, 1, 1<<20, 0, 0, 1<<14))
	}
	for i := range 16 {
		if e := s.Do(tx(api.TxStart, i+1, 1<<i)); e != api.OK && e != api.ErrFunds {
			t.Error(e)
		}
	}
	state := s.State()
	if len(state.Jobs) != 16 || state.Jobs[0].State != api.Running {
		t.Error(state)
	}
	is(t, "Checkpoint", s.Checkpoint(), api.OK)
	d.Crash(0, -1, 0)
	stands(t, "behind a crash", opened(t, d, c), state)
}

// craftedStore: a Store behind a checkpoint with that epoch and number, which a fund and an allocation are behind.
func craftedStore(t *testing.T, c api.Config, epoch, seq int) (*disk.Disk, *store.Store, api.State) {
	t.Helper()
	d, state := diskFor(c), behindAll(t, book.New(), fund("a"), tx(api.TxAlloc, 0, 0, 9, 5))
	lay(t, d, 0, epoch, seq, snapOf(t, state))
	is(t, "Flush", d.Flush(), api.OK)
	return d, opened(t, d, c), state
}

// P22.3: where there are no more numbers nothing is done any more, also where the log is full.
func TestNoMoreNumbers(t *testing.T) {
	c := config(20, 60)
	for count := range 20 {
		d, s, state := craftedStore(t, c, 1, most-count)
		for range count {
			do(t, s, tx(api.TxDeposit, 0, 1))
			_, state = after(t, state, tx(api.TxDeposit, 0, 1))
		}
		was := image(d)
		is(t, "Do", s.Do(tx(api.TxDeposit, 0, 1)), api.ErrOver)
		is(t, "Do", s.Do(tx(api.TxDeposit, 0, 0)), api.ErrArg)
		has(t, "no more numbers", d, was)
		stands(t, "no more numbers", s, state)
		is(t, "Checkpoint", s.Checkpoint(), api.OK)
		is(t, "Do", s.Do(tx(api.TxDeposit, 0, 1)), api.ErrOver)
		stands(t, "no more numbers", opened(t, d, c), state)
	}
}

// P22.3: where there are no more epochs all goes on until the log is full.
func TestNoMoreEpochs(t *testing.T) {
	d, s, state := craftedStore(t, config(20, 60), most-1, 0)
	is(t, "Checkpoint", s.Checkpoint(), api.ErrOver)
	for range 12 {
		do(t, s, tx(api.TxDeposit, 0, 1))
		_, state = after(t, state, tx(api.TxDeposit, 0, 1))
	}
	was := image(d)
	for range 2 {
		is(t, "Do", s.Do(tx(api.TxDeposit, 0, 1)), api.ErrOver)
		is(t, "Checkpoint", s.Checkpoint(), api.ErrOver)
	}
	has(t, "no more epochs", d, was)
	stands(t, "no more epochs", s, state)
}

// P22.3: when the disk refuses anything the state stays, and all else is refused from then on.
func TestDown(t *testing.T) {
	c := config(20, 60)
	x := tx(api.TxDeposit, 0, 9)
	for room := range 8 {
		for n := range 30 {
			d, s, state, _ := filled(t, c, room)
			_, next := after(t, state, x)
			costs := 5 + 1
			if room < 5 {
				costs += sectorsOf(snapOf(t, state)) + 1
			}
			d.Fuse(n)
			if n >= costs {
				do(t, s, x)
				stands(t, "Do", s, next)
				d.Crash(0, -1, 0)
				stands(t, "behind a crash", opened(t, d, c), next)
				break
			}
			is(t, "Do", s.Do(x), api.ErrDown)
			left := s.Room()
			for range 2 {
				was := image(d)
				is(t, "Do", s.Do(x), api.ErrDown)
				is(t, "Do", s.Do(fund("b")), api.ErrDown)
				is(t, "Do", s.Do(fund("a")), api.ErrArg)
				is(t, "Checkpoint", s.Checkpoint(), api.ErrDown)
				stands(t, "down", s, state)
				if !bytes.Equal(was, image(d)) || s.Room() != left {
					t.Error("one that is down writes")
				}
				d.Fuse(-1)
			}
			d.Crash(0, -1, 0)
			is(t, "Do behind a crash", s.Do(x), api.ErrDown)
			stands(t, "behind a crash", opened(t, d, c), state)
		}
	}
}

// P22.3: Checkpoint is the journal's, of the state.
func TestCheckpoint(t *testing.T) {
	c := config(20, 60)
	d, s := begun(t, c)
	state, want := book.New(), image(d)
	for i := range 7 {
		x := fund(string(rune('a' + i)))
		full, next := after(t, state, x)
		do(t, s, x)
		state = next
		want = laid(t, want, 40, 2+i, i+1, entryOf(t, full))
		is(t, "Checkpoint", s.Checkpoint(), api.OK)
		want = laid(t, want, i%2*20, 3+i, i+1, snapOf(t, state))
		has(t, "Checkpoint", d, want)
		stands(t, "Checkpoint", s, state)
		if s.Room() != 60 {
			t.Error(s.Room())
		}
	}
	d.Fuse(sectorsOf(snapOf(t, state)))
	is(t, "Checkpoint", s.Checkpoint(), api.ErrDown)
	is(t, "Checkpoint", s.Checkpoint(), api.ErrDown)
	stands(t, "down", s, state)
	d.Crash(0, -1, 0)
	stands(t, "behind a crash", opened(t, d, c), state)
}

// All calls of a nil *Store: ErrArg, 0, a state without anything. One that Open did not make has nothing either.
func TestNoStore(t *testing.T) {
	var none *store.Store
	for _, x := range append(everyKind(), api.Tx{}, tx(math.MinInt)) {
		is(t, "Do of nil", none.Do(x), api.ErrArg)
		zero := &store.Store{}
		if e := zero.Do(x); e == api.OK {
			t.Error("a transaction is done nowhere")
		}
		stands(t, "zero", zero, api.State{})
	}
	is(t, "Checkpoint of nil", none.Checkpoint(), api.ErrArg)
	if s := none.State(); none.Room() != 0 || !reflect.DeepEqual(s, api.State{}) {
		t.Error(none.Room(), s)
	}
	zero := &store.Store{}
	is(t, "Checkpoint of zero", zero.Checkpoint(), api.ErrArg)
	if s := zero.State(); zero.Room() != 0 || !sameState(s, api.State{}) {
		t.Error(zero.Room(), s)
	}
}

// The chapter's example: one that was OK is there behind a crash that keeps nothing; one that was ErrDown may be there, or not.
func TestExample(t *testing.T) {
	c := config(20, 60)
	for keep, funds := range []int{1, 1, 1, 1, 1, 1, 1, 2} {
		d, s := begun(t, c)
		do(t, s, fund("a"))
		d.Fuse(3)
		is(t, "Do", s.Do(fund("b")), api.ErrDown)
		d.Crash(keep, -1, 0)
		if s = opened(t, d, c); len(s.State().Funds) != funds || s.State().Seq != funds {
			t.Error(keep, s.State())
		}
		d.Crash(0, -1, 0)
		if s = opened(t, d, c); len(s.State().Funds) != funds {
			t.Error("again", keep, s.State())
		}
	}
}

// R5: two Stores on two disks have nothing in common.
func TestTwoStores(t *testing.T) {
	c := config(20, 60)
	_, one := begun(t, c)
	d, other := begun(t, c)
	do(t, one, fund("a"))
	stands(t, "the other", other, book.New())
	do(t, other, fund("b"), fund("c"))
	stands(t, "one", one, behindAll(t, book.New(), fund("a")))
	d.Fuse(0)
	is(t, "Do", other.Do(fund("d")), api.ErrDown)
	do(t, one, fund("d"))
}
