package store_test

import (
	"bytes"
	"math"
	"math/rand"
	"slices"
	"strconv"
	"strings"
	"testing"

	"prebend/api"
	"prebend/book"
	"prebend/disk"
	"prebend/entry"
	"prebend/journal"
	"prebend/snap"
	"prebend/store"
)

// The words of the chapter, one by one; what a disk has is asked of journal, and what transactions do of book.

// stateBy: P22.2: the state that a disk has.
func stateBy(d *disk.Disk, slot int) (api.State, api.Errno) {
	_, checkpoint, records, e := journal.Open(d, slot)
	if e != api.OK {
		return api.State{}, e
	}
	state, e := snap.Decode(checkpoint)
	for _, b := range records {
		x, wrong := entry.Decode(b)
		if e == api.OK {
			e = wrong
		}
		if e == api.OK {
			state, e = book.Apply(state, x)
		}
	}
	if e != api.OK {
		return api.State{}, api.ErrForm
	}
	return state, api.OK
}

// run is a disk, a Store on it, and what must be there behind a crash.
type run struct {
	t     *testing.T
	c     api.Config
	d     *disk.Disk
	s     *store.Store
	state api.State // behind all that was OK
	maybe api.State // behind the one that was cut off; else that is state
	down  bool      // has the disk refused anything of the Store?
	room  int
	fuse  int // how many more Writes and Flushes; below 0: any
	seen  int // how often isRight was asked
	count map[string]int
}

func begin(t *testing.T, c api.Config) *run {
	t.Helper()
	d, s := begun(t, c)
	return &run{t: t, c: c, d: d, s: s, state: book.New(), maybe: book.New(), room: c.Log, fuse: -1, count: map[string]int{}}
}

// pays: does the disk let so many Writes and Flushes through?
func (r *run) pays(costs int) bool {
	if r.fuse < 0 {
		return true
	}
	if r.fuse < costs {
		r.fuse = 0
		return false
	}
	r.fuse -= costs
	return true
}

// doBy: P22.3: what Do is to answer, and what is to be there then.
func (r *run) doBy(x api.Tx) api.Errno {
	full, e := book.Fill(r.state, x)
	if e != api.OK {
		return e
	}
	next, e := book.Apply(r.state, full)
	is(r.t, "Apply", e, api.OK)
	if len(snapOf(r.t, next)) > 24*r.c.Slot-6 {
		return api.ErrFull
	}
	if r.down {
		return api.ErrDown
	}
	sectors := sectorsOf(entryOf(r.t, full))
	if sectors > r.room {
		if e := r.checkpointBy(); e != api.OK {
			return e
		}
		r.count["log full"]++
	}
	if !r.pays(sectors) {
		r.down = true
		return api.ErrDown
	}
	r.room -= sectors
	if !r.pays(1) {
		r.down, r.maybe = true, next
		return api.ErrDown
	}
	r.state, r.maybe = next, next
	return api.OK
}

// checkpointBy: P22.3: what Checkpoint is to answer, and what is to be there then.
func (r *run) checkpointBy() api.Errno {
	if r.down {
		return api.ErrDown
	}
	if !r.pays(sectorsOf(snapOf(r.t, r.state)) + 1) {
		r.down = true
		return api.ErrDown
	}
	r.room = r.c.Log
	return api.OK
}

func (r *run) do(x api.Tx) {
	r.t.Helper()
	want := r.doBy(x)
	r.count[[]string{"OK", "Arg", "Over", "", "None", "Full", "Twice", "Funds", "Limit", "State", "Down", "", "Rate", "Nodes", "Many", ""}[want]]++
	if want == api.OK {
		r.count["OK of "+strconv.Itoa(x.Kind)]++
	}
	if e := r.s.Do(x); e != want {
		r.t.Fatalf("Do(%+v) of %+v is %d; it should be %d", x, r.state, e, want)
	}
	r.isRight("Do")
}

func (r *run) checkpoint() {
	r.t.Helper()
	is(r.t, "Checkpoint", r.s.Checkpoint(), r.checkpointBy())
	r.isRight("Checkpoint")
}

func (r *run) burn(n int) {
	r.d.Fuse(n)
	r.fuse = n
}

// isRight: the Store is as it must be; where nothing was cut off, it all lasts.
func (r *run) isRight(what string) {
	r.t.Helper()
	stands(r.t, what, r.s, r.state)
	if r.down {
		return
	}
	if r.s.Room() != r.room || r.d.Cached() != 0 {
		r.t.Fatalf("%s: room %d of %d; cached %d", what, r.s.Room(), r.room, r.d.Cached())
	}
	// To read a great disk takes long.
	if r.seen++; r.c.Slot > 50 && r.seen%8 > 0 {
		return
	}
	if onDisk, e := stateBy(r.d, r.c.Slot); e != api.OK || !sameState(onDisk, r.state) {
		r.t.Fatalf("%s: the disk has %+v, %d; it should have %+v", what, onDisk, e, r.state)
	}
}

// crash, and Open, whose own Checkpoint may be cut off by another crash: P22.4.
func (r *run) crash(keep, torn, cut, fuse int) {
	r.t.Helper()
	r.d.Crash(keep, torn, cut)
	there, e := stateBy(r.d, r.c.Slot)
	if e != api.OK || !sameState(there, r.state) && !sameState(there, r.maybe) {
		r.t.Fatalf("behind a crash: %+v, %d; it should be %+v or %+v", there, e, r.state, r.maybe)
	}
	if !sameState(there, r.state) {
		r.count["cut off, and there"]++
	} else if !sameState(r.state, r.maybe) {
		r.count["cut off, and lost"]++
	}
	r.state, r.maybe, r.down = there, there, false
	r.burn(fuse)
	if want := r.checkpointBy(); want != api.OK {
		closed(r.t, "cut off", r.d, r.c, want)
		r.count["an Open that was cut off"]++
		r.down = false
		r.d.Crash(keep>>1, torn-1, cut)
		r.burn(-1)
		r.room = r.c.Log
	}
	r.s = opened(r.t, r.d, r.c)
	r.isRight("Open")
}

// again: Open without a crash has the same, unless the disk has refused anything.
func (r *run) again() {
	r.t.Helper()
	if r.down {
		return
	}
	want := r.checkpointBy()
	s, e := store.Open(r.d, r.c)
	if e != want || (s == nil) != (e != api.OK) {
		r.t.Fatalf("Open again is %v, %d; it should be %d", s, e, want)
	}
	if e != api.OK {
		// The Store that was there first has no part in that; but the disk is of no use till a crash.
		r.crash(-1, -1, 0, -1)
		return
	}
	r.s = s
	r.isRight("Open again")
}

// picker: numbers one by one, from bytes; 0 when there are no more.
type picker struct{ rest []byte }

func (p *picker) up(n int) int {
	if len(p.rest) == 0 {
		return 0
	}
	b := p.rest[0]
	p.rest = p.rest[1:]
	return int(b) % n
}

// often: mostly one of these few, now and then anything near the ends.
func (p *picker) often(n int) int {
	if p.up(40) == 39 {
		return []int{-1, 1 << 20, 1 << 40, 1 << 60, 1<<60 + 1, math.MaxInt, math.MinInt}[p.up(7)]
	}
	return p.up(n)
}

func (p *picker) text() string {
	return strings.Repeat(string(rune('a'+p.up(9))), p.up(18))
}

// tx: a transaction that may well be done to a state.
func (p *picker) tx(s api.State) api.Tx {
	kind := []int{1, 2, 3, 4, 5, 6, 7, 7, 8, 9, 10, 11, 12, 12, 13, 14, 14, 14, 15, 3, 2}[p.up(21)]
	x := api.Tx{Time: p.often(30), Kind: kind}
	if kind <= api.TxSubmit && p.up(3) == 0 || p.up(60) == 59 {
		x.Key = p.text()
	}
	id := 0
	if len(s.Jobs) > 0 {
		id = s.Jobs[p.up(len(s.Jobs))].ID
	}
	fund, alloc, amount := p.often(max(1, len(s.Funds))), p.often(max(1, len(s.Allocs))), p.often(90)
	switch kind {
	case api.TxFund:
		x.Name, x.Args = p.text(), []int{fund - 1, p.up(4) * 20}
	case api.TxAlloc:
		x.Args = []int{fund, p.up(4), 5 + p.often(60), amount}
	case api.TxDeposit, api.TxWithdraw:
		x.Args = []int{alloc, amount}
	case api.TxTransfer:
		x.Args = []int{alloc, p.often(max(1, len(s.Allocs))), amount}
	case api.TxRate:
		x.Args = []int{p.often(8), p.often(20), p.often(9)}
	case api.TxSubmit:
		x.Args = []int{fund, 1 + p.often(4), 1 + p.often(9), p.often(8), p.often(9), p.often(4)}
	case api.TxEnd, api.TxRefund:
		x.Args = []int{id, p.often(9)}
	case api.TxStart:
		x.Args = []int{id, 0}
		for _, j := range s.Jobs {
			if j.ID == id && j.Nodes > 0 {
				x.Args[1] = (1<<j.Nodes - 1) << (p.up(30))
			}
		}
	case api.TxExpire:
	default:
		x.Args = []int{id}
	}
	if p.up(50) == 49 {
		x.Args = append(x.Args, 1)
	}
	x.Seq, x.Legs = p.up(9), make([]api.Leg, p.up(3))
	return x
}

// step: what a few bytes say.
func (r *run) step(p *picker) {
	r.t.Helper()
	what := p.up(60)
	if r.down && what%4 == 0 {
		what = 58
	}
	switch what {
	default:
		r.do(p.tx(r.state))
	case 56:
		r.checkpoint()
	case 57:
		r.burn(p.up(60) - 1)
	case 58:
		keep := 0
		for range 8 {
			keep = keep<<8 | p.up(256)
		}
		if p.up(2) == 0 {
			keep = -1
		}
		fuse := -1
		if p.up(3) == 0 {
			fuse = p.up(30)
		}
		r.crash(keep, p.up(30)-2, p.up(36)-2, fuse)
	case 59:
		r.again()
	}
}

// configs: some that may be, most of them small.
func configs() []api.Config {
	return []api.Config{config(4, 60), config(8, 60), config(12, 61), config(20, 80), config(40, 60), config(100, 60), {Nodes: 32, Mode: api.Strict, Slot: 400, Log: 224}}
}

// P22.3, P22.4: many scripts, cut off by fuses and crashes wherever it may be.
func TestScripts(t *testing.T) {
	source := rand.New(rand.NewSource(22))
	count := map[string]int{}
	for i := range 500 {
		r := begin(t, configs()[i%13%7])
		b := make([]byte, 4000)
		source.Read(b)
		for p := (&picker{b}); len(p.rest) > 0; {
			r.step(p)
			if t.Failed() {
				t.Fatal("script", i)
			}
		}
		for what, n := range r.count {
			count[what] += n
		}
	}
	for kind := range 15 {
		if count["OK of "+strconv.Itoa(kind+1)] < 20 {
			t.Error(kind+1, count["OK of "+strconv.Itoa(kind+1)])
		}
	}
	for _, what := range []string{"Arg", "Over", "None", "Full", "Twice", "Funds", "Limit", "State", "Down", "Nodes", "Many", "log full", "cut off, and there", "cut off, and lost", "an Open that was cut off"} {
		if count[what] < 20 {
			t.Error(what, count[what])
		}
	}
}

// P22.4: one script, with a fuse of every length, and what was not flushed kept or torn in many ways.
func TestEveryCrash(t *testing.T) {
	list := []api.Tx{fund("a"), tx(api.TxAlloc, 0, 0, 9, 50), tx(api.TxSubmit, 0, 1, 4, 0, 0, 2), tx(api.TxStart, 1, 1), tx(api.TxEnd, 1, 3), fund("b")}
	total := 0
	for _, x := range list {
		r := begin(t, config(12, 60))
		r.burn(1 << 20)
		for _, y := range list[:slices.IndexFunc(list, func(y api.Tx) bool { return y.Kind == x.Kind })+1] {
			r.do(y)
		}
		total = max(total, 1<<20-r.fuse)
	}
	for fuse := range total + 2 {
		for keep := range 64 {
			for _, torn := range []int{-1, keep % 5} {
				cut := []int{1, 23, 26, 31}[(keep+torn+fuse+4)%4]
				r := begin(t, config(12, 60))
				r.burn(fuse)
				for _, x := range list {
					r.do(x)
				}
				r.crash(keep, torn, cut, -1)
				r.crash(0, -1, 0, -1)
				r.do(fund("c"))
				r.crash(keep, torn, cut, -1)
				if !slices.ContainsFunc(r.state.Funds, func(f api.Fund) bool { return f.Name == "c" }) {
					t.Fatal("one that was OK is not there")
				}
			}
		}
	}
}

// P22.4: the Checkpoint ahead of a transaction is cut off anywhere, and so is that.
func TestEveryCrashOfAFullLog(t *testing.T) {
	c := config(12, 60)
	for fuse := range 20 {
		for keep := range 1 << 7 {
			d, s, state, _ := filled(t, c, 4)
			d.Fuse(fuse)
			r := &run{t: t, c: c, d: d, s: s, state: state, maybe: state, room: 4, fuse: fuse, count: map[string]int{}}
			r.do(tx(api.TxDeposit, 0, 9))
			if r.down != (fuse < 17) {
				t.Fatal(fuse, r.down)
			}
			r.crash(keep|keep<<7, fuse%17-1, keep%33, -1)
			if !r.down && fuse >= 17 && r.state.Seq != state.Seq+1 {
				t.Fatal("one that was OK is not there")
			}
			r.do(tx(api.TxDeposit, 0, 2))
		}
	}
}

// FuzzScript: any script.
func FuzzScript(f *testing.F) {
	source := rand.New(rand.NewSource(2))
	for i := range 6 {
		b := make([]byte, 300*(i+1))
		source.Read(b)
		f.Add(byte(i), b)
	}
	f.Fuzz(func(t *testing.T, which byte, script []byte) {
		r := begin(t, configs()[int(which)%7])
		for p := (&picker{script}); len(p.rest) > 0; {
			r.step(p)
		}
	})
}

// wild: a state of any numbers, most of them small, that has bytes.
func (p *picker) wild() api.State {
	s := api.State{Seq: p.often(99), World: -p.often(200), Next: p.often(99)}
	for range p.up(9) {
		s.Funds = append(s.Funds, api.Fund{Name: strings.Repeat("n", p.up(17)), Parent: p.often(9) - 1, Limit: p.often(900)})
	}
	for range p.up(17) {
		s.Allocs = append(s.Allocs, api.Alloc{Fund: p.often(9), From: p.often(9), Until: p.often(40), Avail: p.often(99), Liened: p.often(99), Spent: p.often(99)})
	}
	for range p.up(17) {
		s.Rates = append(s.Rates, api.Rate{QoS: p.often(8), From: p.often(9), Price: p.often(9)})
	}
	for range p.up(17) {
		j := api.Job{ID: p.often(17), Fund: p.often(9), Nodes: p.often(5), Wall: p.often(9), QoS: p.often(8), Prio: p.often(9), Price: p.often(5), State: p.often(5), Start: p.often(30), Mask: p.often(16), Used: p.often(9)}
		for range p.up(17) {
			j.Draws = append(j.Draws, api.Draw{Alloc: p.often(17), Amount: p.often(30)})
		}
		s.Jobs = append(s.Jobs, j)
	}
	for range p.up(9) {
		s.Keys = append(s.Keys, strings.Repeat("k", p.up(17)))
	}
	return s
}

// openIs: Open of any disk answers what the words have, and twice the same.
func openIs(t *testing.T, d *disk.Disk, c api.Config) api.Errno {
	t.Helper()
	is(t, "Flush", d.Flush(), api.OK)
	was := image(d)
	want, wantE := stateBy(d, c.Slot)
	if wantE == api.OK && len(snapOf(t, want)) > 24*c.Slot-6 {
		wantE = api.ErrFull
	}
	for i := 0; i < len(was); i += 32 {
		if isOK := wantE == api.OK || wantE == api.ErrFull; isOK && bytes.Equal(was[i+24:i+28], []byte{255, 255, 255, 255}) {
			wantE = api.ErrOver
		}
	}
	if wantE != api.OK {
		closed(t, "any disk", d, c, wantE)
		has(t, "any disk", d, was)
		return wantE
	}
	stands(t, "any disk", opened(t, d, c), want)
	stands(t, "any disk", opened(t, d, c), want)
	return api.OK
}

// P22.2, R1: disks with any states and transactions, whether or not there may be such.
func TestAnyDisk(t *testing.T) {
	source := rand.New(rand.NewSource(23))
	count := map[api.Errno]int{}
	for i := range 3000 {
		b := make([]byte, 3000)
		source.Read(b)
		p := &picker{b}
		state := p.wild()
		if i%5 == 0 {
			state = behindAll(t, book.New(), everyKind()[:p.up(21)]...)
		}
		// It just fits, or so.
		c := config(max(4, sectorsOf(snapOf(t, state))+i%3), 60+i%100)
		d := diskFor(c)
		lay(t, d, p.up(2)*c.Slot, 1, 0, snapOf(t, state))
		for k, at := 1, 2*c.Slot; k < 9; k++ {
			x := p.tx(state)
			if full, e := book.Fill(state, x); e == api.OK {
				x = full
				state, _ = book.Apply(state, x)
			} else if p.up(20) > 0 {
				continue
			}
			if len(x.Key) > 16 || len(x.Name) > 16 || at+sectorsOf(entryOf(t, x)) > d.Size() {
				break
			}
			lay(t, d, at, 1, k, entryOf(t, x))
			at += sectorsOf(entryOf(t, x))
		}
		count[openIs(t, d, c)]++
		if t.Failed() {
			t.Fatal("disk", i)
		}
	}
	for _, e := range []api.Errno{api.OK, api.ErrForm, api.ErrFull} {
		if count[e] < 20 {
			t.Error(e, count[e])
		}
	}
}

// R1: any transaction on any Store.
func TestAnyTransaction(t *testing.T) {
	numbers := []int{math.MinInt, -1 << 60, -1, 0, 1, 2, 3, 12, 1 << 40, 1<<40 + 1, 1 << 60, 1<<60 + 1, math.MaxInt}
	source := rand.New(rand.NewSource(24))
	pick := func() int { return numbers[source.Intn(len(numbers))] }
	for i := range 60 {
		r := begin(t, configs()[2+i%5])
		for _, x := range everyKind()[:i%15] {
			r.do(x)
		}
		for range 300 {
			x := api.Tx{Seq: pick(), Time: max(0, pick()), Kind: source.Intn(17), Key: strings.Repeat("\xff", source.Intn(20)), Name: strings.Repeat("\x00", source.Intn(20))}
			if source.Intn(2) == 0 {
				x.Key, x.Name = "", ""
			}
			for range source.Intn(9) {
				x.Args = append(x.Args, pick())
				x.Legs = append(x.Legs, api.Leg{Acct: pick(), Amount: pick()})
			}
			r.do(x)
		}
	}
}

// FuzzOpen: any bytes as a checkpoint, and as records.
func FuzzOpen(f *testing.F) {
	state, _ := snap.Encode(book.New())
	full, _ := book.Fill(book.New(), fund("a"))
	one, _ := entry.Encode(full)
	next, _ := book.Apply(book.New(), full)
	full, _ = book.Fill(next, tx(api.TxAlloc, 0, 0, 9, 5))
	two, _ := entry.Encode(full)
	f.Add(state, one, two)
	f.Add(state, two, one)
	f.Add(state, []byte{}, one)
	f.Add([]byte{}, one, two)
	f.Fuzz(func(t *testing.T, checkpoint, first, second []byte) {
		c := config(400, 224)
		if len(checkpoint) > 9000 || len(first) > 2500 || len(second) > 2500 {
			return
		}
		d := diskFor(c)
		lay(t, d, 0, 1, 0, checkpoint)
		lay(t, d, 800, 1, 1, first)
		lay(t, d, 800+sectorsOf(first), 1, 2, second)
		openIs(t, d, c)
	})
}
