package book_test

import (
	"math"
	"reflect"
	"slices"
	"strings"
	"testing"

	"prebend/api"
	"prebend/book"
)

const (
	most = 1 << 60
	last = 1 << 40
)

func TestLimits(t *testing.T) {
	kinds := []int{api.TxFund, api.TxAlloc, api.TxDeposit, api.TxWithdraw, api.TxTransfer, api.TxRate, api.TxSubmit, api.TxHold, api.TxFree, api.TxCancel, api.TxRequeue, api.TxEnd, api.TxRefund, api.TxStart, api.TxExpire}
	for k, kind := range kinds {
		if kind != k+1 {
			t.Error(k+1, kind)
		}
	}
	if api.MaxTime != last || api.MaxAmount != most || api.MaxName != 16 || api.MaxKeys != 8 {
		t.Error(api.MaxTime, api.MaxAmount, api.MaxName, api.MaxKeys)
	}
	if api.MaxFunds != 8 || api.MaxAllocs != 16 || api.MaxRates != 16 || api.MaxJobs != 16 {
		t.Error(api.MaxFunds, api.MaxAllocs, api.MaxRates, api.MaxJobs)
	}
}

// rich: a state with all that there is: the job 1 is queued, 2 held, 3 runs, 4 is done.
func rich() api.State {
	return api.State{
		Seq: 10, World: -323, Next: 5,
		Funds: []api.Fund{{Name: "root", Parent: -1, Limit: 1000}, {Name: "lab", Parent: 0}, {Name: "sub", Parent: 1}},
		Allocs: []api.Alloc{
			{Fund: 1, Until: 50, Avail: 40, Liened: 20, Spent: 5},
			{Fund: 0, Until: 20, Avail: 200, Liened: 40, Spent: 2},
			{Fund: 2, From: 3, Until: 99, Avail: 7, Spent: 9},
		},
		Rates: []api.Rate{{Price: 2}},
		Jobs: []api.Job{
			{ID: 1, Fund: 1, Nodes: 3, Wall: 10, Price: 2, State: api.Queued},
			{ID: 2, Fund: 1, Nodes: 1, Wall: 10, QoS: 3, Prio: 9, Price: 2, State: api.Held},
			{ID: 3, Fund: 1, Nodes: 3, Wall: 10, Price: 2, State: api.Running, Start: 5, Mask: 13, Draws: []api.Draw{{Alloc: 0, Amount: 20}, {Alloc: 1, Amount: 40}}},
			{ID: 4, Fund: 2, Nodes: 2, Wall: 8, Price: 2, State: api.Done, Start: 1, Used: 4, Draws: []api.Draw{{Alloc: 2, Amount: 9}, {Alloc: 0, Amount: 5}, {Alloc: 1, Amount: 2}}},
		},
		Keys: []string{"a", "b"},
	}
}

// richWith: that, but for a change.
func richWith(change func(s *api.State)) api.State {
	s := rich()
	change(&s)
	return s
}

func tx(kind int, args ...int) api.Tx { return api.Tx{Time: 7, Kind: kind, Args: args} }

func txAt(time, kind int, args ...int) api.Tx { return api.Tx{Time: time, Kind: kind, Args: args} }

func named(name string, args ...int) api.Tx {
	return api.Tx{Time: 7, Kind: api.TxFund, Name: name, Args: args}
}

func withKey(x api.Tx, key string) api.Tx {
	x.Key = key
	return x
}

// good: a transaction of each kind that may be done to rich.
func good() []api.Tx {
	return []api.Tx{
		named("new", 1, 5), tx(api.TxAlloc, 1, 0, 9, 5), tx(api.TxDeposit, 0, 5), tx(api.TxWithdraw, 0, 5), tx(api.TxTransfer, 0, 1, 5),
		tx(api.TxRate, 0, 9, 5), tx(api.TxSubmit, 1, 3, 10, 0, 5, 2), tx(api.TxHold, 1), tx(api.TxFree, 2), tx(api.TxCancel, 2),
		tx(api.TxRequeue, 3), tx(api.TxEnd, 3, 4), tx(api.TxRefund, 4, 3), tx(api.TxStart, 1, 50), txAt(20, api.TxExpire),
	}
}

// comes: a transaction is filled with these legs, and the state behind it is that, but for a change; it answers it. The number and the key are looked at here.
func comes(t *testing.T, s api.State, x api.Tx, legs []api.Leg, change func(s *api.State)) api.State {
	t.Helper()
	full := deepTx(x)
	full.Seq, full.Legs = s.Seq+1, legs
	fillIs(t, s, x, full, api.OK)
	want := deep(s)
	want.Seq++
	if x.Key != "" {
		want.Keys = append(want.Keys, x.Key)
	}
	if change != nil {
		change(&want)
	}
	applyIs(t, s, full, want, api.OK)
	// That the words in the other file say the same.
	same(t, s, x)
	return want
}

// goes: a transaction may be done.
func goes(t *testing.T, s api.State, x api.Tx) api.State {
	t.Helper()
	after, e := same(t, s, x)
	if e != api.OK {
		t.Errorf("Fill(%+v, %+v) is %d", s, x, e)
	}
	return after
}

// refused: neither call does it, and both say why, whatever its number and its legs.
func refused(t *testing.T, s api.State, x api.Tx, e api.Errno) {
	t.Helper()
	fillIs(t, s, x, api.Tx{}, e)
	applyIs(t, s, x, api.State{}, e)
	x.Seq, x.Legs = s.Seq+1, legsOf(0, -5, 1, 5)
	fillIs(t, s, x, api.Tx{}, e)
	applyIs(t, s, x, api.State{}, e)
}

// near: these numbers, those beside them, and some at all ends.
func near(list ...int) []int {
	var all []int
	for _, n := range list {
		all = append(all, n-1, n, n+1)
	}
	return append(all, math.MinInt, math.MinInt+1, math.MaxInt, -most, 1<<32, 1<<41)
}

// P20.1: New is a state without anything, but Next 1, and a new one each time.
func TestNew(t *testing.T) {
	for range 3 {
		s := book.New()
		if !reflect.DeepEqual(deep(s), api.State{Next: 1}) {
			t.Error(s)
		}
		s.Seq, s.Next, s.Keys = 5, 5, append(s.Keys, "k")
	}
}

// P20.1: the chapter's example.
func TestExample(t *testing.T) {
	s := book.New()
	s = comes(t, s, api.Tx{Kind: api.TxFund, Name: "lab", Args: []int{-1, 0}}, nil, func(s *api.State) {
		s.Funds = []api.Fund{{Name: "lab", Parent: -1}}
	})
	s = comes(t, s, txAt(0, api.TxAlloc, 0, 0, 99, 100), legsOf(0, -100, 1, 100), func(s *api.State) {
		s.World, s.Allocs = -100, []api.Alloc{{Until: 99, Avail: 100}}
	})
	s = comes(t, s, txAt(0, api.TxRate, 0, 0, 2), nil, func(s *api.State) {
		s.Rates = []api.Rate{{Price: 2}}
	})
	s = comes(t, s, txAt(0, api.TxSubmit, 0, 3, 10, 0, 0, 2), nil, func(s *api.State) {
		s.Next, s.Jobs = 2, []api.Job{{ID: 1, Nodes: 3, Wall: 10, Price: 2, State: 1}}
	})
	s = comes(t, s, txAt(5, api.TxStart, 1, 7), legsOf(1, -60, 2, 60), func(s *api.State) {
		s.Allocs = []api.Alloc{{Until: 99, Avail: 40, Liened: 60}}
		s.Jobs = []api.Job{{ID: 1, Nodes: 3, Wall: 10, Price: 2, State: 3, Start: 5, Mask: 7, Draws: []api.Draw{{Amount: 60}}}}
	})
	s = comes(t, s, txAt(9, api.TxEnd, 1, 4), legsOf(2, -60, 3, 24, 1, 36), func(s *api.State) {
		s.Allocs = []api.Alloc{{Until: 99, Avail: 76, Spent: 24}}
		s.Jobs = []api.Job{{ID: 1, Nodes: 3, Wall: 10, Price: 2, State: 4, Start: 5, Used: 4, Draws: []api.Draw{{Amount: 24}}}}
	})
	if s.Seq != 6 || s.World != -100 {
		t.Error(s)
	}
}

// P20.1: each kind has one that may be done, behind which nothing is wrong.
func TestGoodOnes(t *testing.T) {
	isRight(t, rich())
	for k, x := range good() {
		if x.Kind != k+1 {
			t.Error(x.Kind)
		}
		isRight(t, goes(t, rich(), x))
	}
}

// P20.1: the Time is from 0 to 2^40, of every kind.
func TestTime(t *testing.T) {
	for _, x := range good() {
		for _, at := range near(0, last) {
			x.Time = at
			if at < 0 || at > last {
				refused(t, rich(), x, api.ErrArg)
			} else {
				_, e := same(t, rich(), x)
				if e == api.ErrArg {
					t.Error(x.Kind, at)
				}
			}
		}
	}
	comes(t, rich(), txAt(0, api.TxHold, 1), nil, func(s *api.State) { s.Jobs[0].State = api.Held })
	comes(t, rich(), txAt(last, api.TxHold, 1), nil, func(s *api.State) { s.Jobs[0].State = api.Held })
}

// P20.1: there are kinds from 1 to 15, however many Args there are.
func TestKind(t *testing.T) {
	for _, kind := range []int{0, -1, 16, 17, 20, 28, -12, 1<<32 + 3, 259, math.MinInt, math.MaxInt} {
		for n := range 10 {
			refused(t, rich(), api.Tx{Kind: kind, Args: make([]int, n)}, api.ErrArg)
			refused(t, api.State{}, api.Tx{Kind: kind, Name: "n", Args: make([]int, n)}, api.ErrArg)
		}
	}
}

// P20.1: there are as many Args as are named, no more and no less.
func TestArgs(t *testing.T) {
	for _, x := range good() {
		args := append(slices.Clone(x.Args), 1, 1, 1, 1, 1, 1, 1, 1, 1)
		for n := range args {
			if n == len(x.Args) {
				continue
			}
			short := x
			short.Args = args[:n]
			refused(t, rich(), short, api.ErrArg)
		}
	}
}

// P20.1: those up to TxSubmit, and TxRefund, may have a Key, of at most 16 bytes, of any kind; no others.
func TestKey(t *testing.T) {
	sixteen := strings.Repeat("k", 16)
	for _, x := range good() {
		for _, key := range []string{"k", sixteen, "\x00", "\xff\xfe", "A", " ", "aa", "ba", sixteen + "k", strings.Repeat("k", 70000)} {
			keyed := withKey(x, key)
			if len(key) > 16 || x.Kind > api.TxSubmit && x.Kind != api.TxRefund {
				refused(t, rich(), keyed, api.ErrArg)
				continue
			}
			after := goes(t, rich(), keyed)
			if !slices.Equal(after.Keys, []string{"a", "b", key}) {
				t.Error(x.Kind, after.Keys)
			}
		}
		if after := goes(t, rich(), x); !slices.Equal(after.Keys, rich().Keys) {
			t.Error(x.Kind, after.Keys)
		}
	}
}

// P20.1: TxFund has a Name, of at most 16 bytes; no others may have one.
func TestName(t *testing.T) {
	for _, x := range good() {
		for _, name := range []string{"n", strings.Repeat("n", 16), "\x00", strings.Repeat("n", 17), strings.Repeat("n", 70000)} {
			x.Name = name
			if x.Kind != api.TxFund || len(name) > 16 {
				refused(t, rich(), x, api.ErrArg)
				continue
			}
			comes(t, rich(), x, nil, func(s *api.State) {
				s.Funds = append(s.Funds, api.Fund{Name: name, Parent: 1, Limit: 5})
			})
		}
	}
	refused(t, rich(), named("", -1, 0), api.ErrArg)
}

// P20.1: no Key that is kept may be had again, wherever it stands; one of nothing is none.
func TestTwice(t *testing.T) {
	s := richWith(func(s *api.State) { s.Keys = []string{"a", "b", "c", "d", "e", "f", "g", "h"} })
	for _, x := range good() {
		mayHave := x.Kind <= api.TxSubmit || x.Kind == api.TxRefund
		for _, key := range s.Keys {
			if mayHave {
				refused(t, s, withKey(x, key), api.ErrTwice)
			} else {
				refused(t, s, withKey(x, key), api.ErrArg)
			}
		}
		blank := richWith(func(s *api.State) { s.Keys = []string{"", "x", ""} })
		if after := goes(t, blank, x); !slices.Equal(after.Keys, blank.Keys) {
			t.Error(after.Keys)
		}
	}
}

// R2: what is wrong with any transaction is told ahead of ErrTwice, and that ahead of the kind's own errors.
func TestFirstErrors(t *testing.T) {
	wrong := func(x api.Tx, e api.Errno) {
		t.Helper()
		refused(t, rich(), x, e)
	}
	keyed := withKey(tx(api.TxDeposit, 9, 0), "a")
	wrong(keyed, api.ErrTwice)
	late := keyed
	late.Time = -1
	wrong(late, api.ErrArg)
	few := keyed
	few.Args = []int{9}
	wrong(few, api.ErrArg)
	titled := keyed
	titled.Name = "n"
	wrong(titled, api.ErrArg)
	for _, x := range []api.Tx{named("root", 9, -1), named("", 9, -1), tx(api.TxAlloc, 9, -1, -1, 0), tx(api.TxWithdraw, -1, 0), tx(api.TxTransfer, 9, 9, 0), tx(api.TxRate, -1, -1, -1), tx(api.TxSubmit, 9, 0, 0, 0, 0, 0), tx(api.TxRefund, 9, 0)} {
		wrong(withKey(x, "b"), api.ErrTwice)
	}
	// Of a kind there may be no key, though that one is kept.
	wrong(withKey(tx(api.TxHold, 9), "a"), api.ErrArg)
}

// P20.1: the last eight Keys stay, in their order.
func TestKeysStay(t *testing.T) {
	s := rich()
	var all []string
	all = append(all, s.Keys...)
	for k := range 30 {
		key := "key" + string(rune('a'+k))
		all = append(all, key)
		s = goes(t, s, withKey(tx(api.TxDeposit, k%3, 1), key))
		if !slices.Equal(s.Keys, all[max(0, len(all)-8):]) {
			t.Error(s.Keys)
		}
		s = goes(t, s, tx(api.TxDeposit, 0, 1))
		refused(t, s, withKey(tx(api.TxDeposit, 0, 1), key), api.ErrTwice)
		if len(all) > 8 {
			goes(t, s, withKey(tx(api.TxDeposit, 0, 1), all[len(all)-9]))
			refused(t, s, withKey(tx(api.TxDeposit, 0, 1), all[len(all)-8]), api.ErrTwice)
		}
	}
}

// P20.1: Fill goes by the Kind, the Time, the Key, the Name and the Args alone.
func TestFillAlone(t *testing.T) {
	for _, x := range good() {
		full, e := book.Fill(rich(), x)
		if e != api.OK || full.Seq != 11 {
			t.Error(full, e)
		}
		for _, seq := range []int{0, 1, 10, 11, 12, -1, math.MinInt, math.MaxInt} {
			for _, legs := range [][]api.Leg{nil, {}, full.Legs, legsOf(0, 0), legsOf(99, 1), make([]api.Leg, 65)} {
				other := x
				other.Seq, other.Legs = seq, legs
				fillIs(t, rich(), other, full, api.OK)
			}
		}
	}
}

// P20.1: Apply takes none but what Fill answers.
func TestApplyWantsAll(t *testing.T) {
	for _, x := range good() {
		full, _ := book.Fill(rich(), x)
		after, _, _ := words(rich(), x)
		applyIs(t, rich(), full, after, api.OK)
		wrong := func(other api.Tx) {
			t.Helper()
			applyIs(t, rich(), other, api.State{}, api.ErrForm)
		}
		for _, seq := range []int{0, 1, 10, 12, -11, 11 + 1<<32, math.MinInt, math.MaxInt} {
			other := deepTx(full)
			other.Seq = seq
			wrong(other)
		}
		other := deepTx(full)
		other.Legs = append(other.Legs, api.Leg{})
		wrong(other)
		other.Legs = append(slices.Clone(full.Legs), legsOf(0, -1, 1, 1)...)
		wrong(other)
		if len(full.Legs) == 0 {
			other.Legs = []api.Leg{}
			applyIs(t, rich(), other, after, api.OK)
			continue
		}
		other.Legs = nil
		wrong(other)
		other.Legs = full.Legs[:len(full.Legs)-1]
		wrong(other)
		other.Legs = full.Legs[1:]
		wrong(other)
		other.Legs = slices.Clone(full.Legs)
		slices.Reverse(other.Legs)
		wrong(other)
		for k := range full.Legs {
			other.Legs = slices.Clone(full.Legs)
			other.Legs[k].Amount++
			wrong(other)
			other.Legs[k] = full.Legs[k]
			other.Legs[k].Acct += 3
			wrong(other)
		}
	}
}

// P20.1: one more each time, whatever it is.
func TestSeq(t *testing.T) {
	for _, seq := range []int{0, 1, 10, 1<<32 - 1, 1 << 32, most - 1, most} {
		for _, x := range good() {
			s := richWith(func(s *api.State) { s.Seq = seq })
			if after := goes(t, s, x); after.Seq != seq+1 {
				t.Error(seq, after.Seq)
			}
		}
	}
}

// P20.1, TxFund: eight at most, which may be.
func TestFund(t *testing.T) {
	for _, parent := range near(-1, 2) {
		if parent < -1 || parent > 2 {
			refused(t, rich(), named("new", parent, 0), api.ErrArg)
			continue
		}
		comes(t, rich(), named("new", parent, 0), nil, func(s *api.State) {
			s.Funds = append(s.Funds, api.Fund{Name: "new", Parent: parent})
		})
	}
	for _, limit := range near(0, most) {
		if limit < 0 || limit > most {
			refused(t, rich(), named("new", 0, limit), api.ErrArg)
			continue
		}
		comes(t, rich(), named("new", 0, limit), nil, func(s *api.State) {
			s.Funds = append(s.Funds, api.Fund{Name: "new", Parent: 0, Limit: limit})
		})
	}
	for _, name := range []string{"root", "lab", "sub"} {
		refused(t, rich(), named(name, -1, 0), api.ErrArg)
		goes(t, rich(), named(name+"s", -1, 0))
	}
	s := rich()
	for k := range 5 {
		s = goes(t, s, named("new"+string(rune('0'+k)), k, 9))
	}
	if len(s.Funds) != 8 {
		t.Error(s.Funds)
	}
	refused(t, s, named("more", -1, 0), api.ErrMany)
	refused(t, s, named("root", 9, -1), api.ErrMany)
	refused(t, s, named("", 9, -1), api.ErrMany)
	// The others must be such as may be, too.
	refused(t, richWith(func(s *api.State) { s.Funds[1].Name = "" }), named("new", -1, 0), api.ErrArg)
	refused(t, richWith(func(s *api.State) { s.Funds[2].Parent = 2 }), named("new", -1, 0), api.ErrArg)
}

// P20.1, TxAlloc: of a fund that there is, from a tick until a later one, of 1 at least; sixteen at most.
func TestAlloc(t *testing.T) {
	for _, fund := range near(0, 3) {
		if fund < 0 || fund > 2 {
			refused(t, rich(), tx(api.TxAlloc, fund, 3, 9, 5), api.ErrNone)
			refused(t, rich(), tx(api.TxAlloc, fund, -1, -1, 0), api.ErrNone)
			continue
		}
		comes(t, rich(), tx(api.TxAlloc, fund, 3, 9, 5), legsOf(0, -5, 10, 5), func(s *api.State) {
			s.World, s.Allocs = -328, append(s.Allocs, api.Alloc{Fund: fund, From: 3, Until: 9, Avail: 5})
		})
	}
	for _, from := range near(0, 8, last) {
		for _, until := range near(0, 8, last) {
			x := tx(api.TxAlloc, 1, from, until, 5)
			if from < 0 || until <= from || until > last {
				refused(t, rich(), x, api.ErrArg)
				continue
			}
			if after := goes(t, rich(), x); after.Allocs[3] != (api.Alloc{Fund: 1, From: from, Until: until, Avail: 5}) {
				t.Error(after.Allocs)
			}
		}
	}
	for _, amount := range near(0, most-323, most) {
		x := tx(api.TxAlloc, 1, 3, 9, amount)
		switch {
		case amount < 1:
			refused(t, rich(), x, api.ErrArg)
		case amount > most-323:
			refused(t, rich(), x, api.ErrOver)
		default:
			if after := goes(t, rich(), x); after.Allocs[3].Avail != amount || after.World != -323-amount {
				t.Error(after)
			}
		}
	}
	s := rich()
	for k := 3; k < 16; k++ {
		s = comes(t, s, tx(api.TxAlloc, k%3, k, k+1, k), legsOf(0, -k, 1+3*k, k), func(s *api.State) {
			s.World, s.Allocs = s.World-k, append(s.Allocs, api.Alloc{Fund: k % 3, From: k, Until: k + 1, Avail: k})
		})
	}
	refused(t, s, tx(api.TxAlloc, 0, 0, 9, 5), api.ErrMany)
	refused(t, s, tx(api.TxAlloc, 0, 0, 9, most+1), api.ErrMany)
	refused(t, s, tx(api.TxAlloc, 0, 9, 9, 5), api.ErrArg)
	refused(t, s, tx(api.TxAlloc, 0, 0, 9, 0), api.ErrArg)
	refused(t, s, tx(api.TxAlloc, 3, 0, 9, 5), api.ErrNone)
}

// places: where an allocation may be, and beside that.
func places() []int {
	return []int{-1, -2, 3, 4, 16, 1 << 32, math.MaxInt, math.MinInt, math.MaxInt / 3, math.MaxInt/3 + 1, math.MinInt / 3, 6148914691236517205, 6148914691236517206, -6148914691236517205}
}

// P20.1, TxDeposit: from the world to what an allocation has available.
func TestDeposit(t *testing.T) {
	for a := range 3 {
		comes(t, rich(), tx(api.TxDeposit, a, 5), legsOf(0, -5, 1+3*a, 5), func(s *api.State) {
			s.World -= 5
			s.Allocs[a].Avail += 5
		})
		for _, amount := range []int{0, -1, -5, math.MinInt} {
			refused(t, rich(), tx(api.TxDeposit, a, amount), api.ErrArg)
		}
		goes(t, rich(), tx(api.TxDeposit, a, most-323))
		for _, amount := range []int{most - 322, most, most + 1, math.MaxInt} {
			refused(t, rich(), tx(api.TxDeposit, a, amount), api.ErrOver)
		}
	}
	for _, a := range places() {
		refused(t, rich(), tx(api.TxDeposit, a, 5), api.ErrNone)
		refused(t, rich(), tx(api.TxDeposit, a, 0), api.ErrNone)
		refused(t, api.State{}, tx(api.TxDeposit, a, 5), api.ErrNone)
	}
	refused(t, richWith(func(s *api.State) { s.World = 6 }), tx(api.TxDeposit, 0, 5), api.ErrFunds)
	refused(t, richWith(func(s *api.State) { s.Allocs[0].Avail = -6 }), tx(api.TxDeposit, 0, 5), api.ErrFunds)
	goes(t, richWith(func(s *api.State) { s.Allocs[0].Avail = -5 }), tx(api.TxDeposit, 0, 5))
	// Accounts that no leg names may have what they like.
	goes(t, richWith(func(s *api.State) { s.Allocs[0].Spent, s.Allocs[1].Avail = -9, -9 }), tx(api.TxDeposit, 0, 5))
}

// P20.1, TxWithdraw: from what an allocation has available to the world.
func TestWithdraw(t *testing.T) {
	for a, avail := range []int{40, 200, 7} {
		for _, amount := range []int{1, avail - 1, avail} {
			comes(t, rich(), tx(api.TxWithdraw, a, amount), legsOf(1+3*a, -amount, 0, amount), func(s *api.State) {
				s.World += amount
				s.Allocs[a].Avail -= amount
			})
		}
		for _, amount := range []int{avail + 1, 323, 324, most} {
			refused(t, rich(), tx(api.TxWithdraw, a, amount), api.ErrFunds)
		}
		for _, amount := range []int{0, -1, -5, math.MinInt} {
			refused(t, rich(), tx(api.TxWithdraw, a, amount), api.ErrArg)
		}
		for _, amount := range []int{most + 1, math.MaxInt} {
			refused(t, rich(), tx(api.TxWithdraw, a, amount), api.ErrOver)
		}
	}
	for _, a := range places() {
		refused(t, rich(), tx(api.TxWithdraw, a, 5), api.ErrNone)
		refused(t, rich(), tx(api.TxWithdraw, a, 0), api.ErrNone)
	}
	refused(t, richWith(func(s *api.State) { s.World = -4 }), tx(api.TxWithdraw, 0, 5), api.ErrFunds)
	goes(t, richWith(func(s *api.State) { s.World = -5 }), tx(api.TxWithdraw, 0, 5))
}

// P20.1, TxTransfer: from one allocation to another one, of whatever funds, at whatever tick.
func TestTransfer(t *testing.T) {
	avail := []int{40, 200, 7}
	for a := range 3 {
		for b := range 3 {
			if a == b {
				refused(t, rich(), tx(api.TxTransfer, a, b, 5), api.ErrArg)
				refused(t, rich(), tx(api.TxTransfer, a, b, 0), api.ErrArg)
				continue
			}
			for _, amount := range []int{1, avail[a]} {
				comes(t, rich(), txAt(last, api.TxTransfer, a, b, amount), legsOf(1+3*a, -amount, 1+3*b, amount), func(s *api.State) {
					s.Allocs[a].Avail -= amount
					s.Allocs[b].Avail += amount
				})
			}
			refused(t, rich(), tx(api.TxTransfer, a, b, avail[a]+1), api.ErrFunds)
			refused(t, rich(), tx(api.TxTransfer, a, b, most+1), api.ErrOver)
			for _, amount := range []int{0, -1, math.MinInt} {
				refused(t, rich(), tx(api.TxTransfer, a, b, amount), api.ErrArg)
			}
			full := richWith(func(s *api.State) { s.Allocs[b].Avail = most })
			refused(t, full, tx(api.TxTransfer, a, b, 1), api.ErrOver)
		}
		for _, b := range places() {
			refused(t, rich(), tx(api.TxTransfer, a, b, 5), api.ErrNone)
			refused(t, rich(), tx(api.TxTransfer, b, a, 5), api.ErrNone)
			refused(t, rich(), tx(api.TxTransfer, b, b, 0), api.ErrNone)
		}
	}
}

// P20.1, TxRate: sixteen at most, which may be.
func TestRate(t *testing.T) {
	bounds := []int{7, last, last}
	for k, bound := range bounds {
		for _, n := range near(0, bound) {
			args := []int{1, 2, 3}
			args[k] = n
			if n < 0 || n > bound {
				refused(t, rich(), tx(api.TxRate, args...), api.ErrArg)
				continue
			}
			comes(t, rich(), tx(api.TxRate, args...), nil, func(s *api.State) {
				s.Rates = append(s.Rates, api.Rate{QoS: args[0], From: args[1], Price: args[2]})
			})
		}
	}
	s := rich()
	for k := range 15 {
		// The same one may come again.
		s = goes(t, s, tx(api.TxRate, k%2, 5, 9))
	}
	if len(s.Rates) != 16 || s.Rates[15] != (api.Rate{QoS: 0, From: 5, Price: 9}) || s.Rates[0] != (api.Rate{Price: 2}) {
		t.Error(s.Rates)
	}
	refused(t, s, tx(api.TxRate, 0, 5, 9), api.ErrMany)
	refused(t, s, tx(api.TxRate, -1, -1, -1), api.ErrMany)
	refused(t, richWith(func(s *api.State) { s.Rates[0].QoS = 8 }), tx(api.TxRate, 0, 5, 9), api.ErrArg)
}

// P20.1, TxSubmit: a job of a fund that there is, and that may be.
func TestSubmit(t *testing.T) {
	comes(t, rich(), tx(api.TxSubmit, 1, 3, 10, 4, 6, 2), nil, func(s *api.State) {
		s.Next, s.Jobs = 6, append(s.Jobs, api.Job{ID: 5, Fund: 1, Nodes: 3, Wall: 10, QoS: 4, Prio: 6, Price: 2, State: 1})
	})
	bounds := [][2]int{1: {1, 32}, {1, 1 << 20}, {0, 7}, {0, 1 << 20}, {0, last}}
	for k, bound := range bounds {
		if k == 0 {
			continue
		}
		for _, n := range near(bound[0], bound[1]) {
			args := []int{2, 3, 10, 4, 6, 2}
			args[k] = n
			if n < bound[0] || n > bound[1] {
				refused(t, rich(), tx(api.TxSubmit, args...), api.ErrArg)
			} else {
				goes(t, rich(), tx(api.TxSubmit, args...))
			}
		}
	}
	for _, fund := range []int{-1, 3, 7, 8, math.MinInt, math.MaxInt} {
		refused(t, rich(), tx(api.TxSubmit, fund, 3, 10, 4, 6, 2), api.ErrNone)
		refused(t, rich(), tx(api.TxSubmit, fund, 0, 0, -1, -1, -1), api.ErrNone)
	}
	// No job has the ID 0.
	refused(t, richWith(func(s *api.State) { s.Next = 0 }), tx(api.TxSubmit, 1, 3, 10, 4, 6, 2), api.ErrArg)
	far := goes(t, richWith(func(s *api.State) { s.Next = most }), tx(api.TxSubmit, 1, 3, 10, 4, 6, 2))
	if far.Next != most+1 || far.Jobs[4].ID != most {
		t.Error(far)
	}
}

// sixteen: a state with so many jobs, all of one state.
func sixteen(state int) api.State {
	return richWith(func(s *api.State) {
		s.Jobs, s.Next = nil, 17
		for id := 1; id <= 16; id++ {
			s.Jobs = append(s.Jobs, api.Job{ID: id, Nodes: 1, Wall: 1, State: state})
		}
	})
}

// P20.1, TxSubmit: of sixteen jobs one that is Done must go, that with the least ID.
func TestSubmitToMany(t *testing.T) {
	x := tx(api.TxSubmit, 1, 3, 10, 4, 6, 2)
	for _, state := range []int{api.Queued, api.Held, api.Running} {
		refused(t, sixteen(state), x, api.ErrMany)
		refused(t, sixteen(state), tx(api.TxSubmit, 1, 0, 10, 4, 6, 2), api.ErrArg)
		refused(t, sixteen(state), tx(api.TxSubmit, 9, 3, 10, 4, 6, 2), api.ErrNone)
		for k := range 16 {
			s := sixteen(state)
			s.Jobs[k].State = api.Done
			s.Jobs[k].Draws = []api.Draw{{Alloc: 0, Amount: 5}}
			comes(t, s, x, nil, func(s *api.State) {
				s.Jobs = append(slices.Delete(s.Jobs, k, k+1), api.Job{ID: 17, Fund: 1, Nodes: 3, Wall: 10, QoS: 4, Prio: 6, Price: 2, State: 1})
				s.Next = 18
			})
			for other := range k {
				two := deep(s)
				two.Jobs[other].State = api.Done
				if after := goes(t, two, x); after.Jobs[k-1].ID != k+1 || after.Jobs[15].ID != 17 {
					t.Error(after.Jobs)
				}
				two.Jobs[other].ID, two.Jobs[k].ID = 9, 8
				if after := goes(t, two, x); after.Jobs[other].ID != 9 || after.Jobs[15].ID != 17 {
					t.Error(after.Jobs)
				}
				// Of several with that ID the first one goes.
				two.Jobs[other].ID, two.Jobs[other].Wall = 8, 2
				if after := goes(t, two, x); after.Jobs[k-1].ID != 8 || after.Jobs[k-1].Wall != 1 {
					t.Error(after.Jobs)
				}
			}
		}
	}
	// Of fewer none goes.
	s := sixteen(api.Done)
	s.Jobs = s.Jobs[:15]
	if after := goes(t, s, x); len(after.Jobs) != 16 || after.Jobs[0].ID != 1 || after.Jobs[15].ID != 17 {
		t.Error(after.Jobs)
	}
}

// ofJobs: the kinds that are of one job, with the states in which it must be.
func ofJobs() map[int][]int {
	return map[int][]int{api.TxHold: {1}, api.TxFree: {2}, api.TxCancel: {1, 2}, api.TxRequeue: {3}, api.TxEnd: {3}, api.TxRefund: {4}, api.TxStart: {1}}
}

// P20.1: there must be a job of that ID, and it must be in the state that its kind is of; the first one of that ID is meant.
func TestJobMustBe(t *testing.T) {
	for kind, states := range ofJobs() {
		n := argsBy()[kind]
		for _, id := range []int{0, 5, -1, 6, 1 + 1<<32, math.MaxInt, math.MinInt} {
			for _, other := range []int{-1, 0, 1, 7} {
				refused(t, rich(), tx(kind, []int{id, other}[:n]...), api.ErrNone)
				refused(t, book.New(), tx(kind, []int{1, other}[:n]...), api.ErrNone)
			}
		}
		for _, state := range []int{0, 1, 2, 3, 4, 5, -1, math.MinInt, math.MaxInt} {
			s := richWith(func(s *api.State) {
				s.Jobs[1].ID, s.Jobs[1].State, s.Jobs[1].Draws = 3, state, []api.Draw{{Alloc: 1, Amount: 2}}
			})
			for _, other := range []int{-1, 0, 1, 2} {
				x := tx(kind, []int{3, other}[:n]...)
				_, e := same(t, s, x)
				if (e == api.ErrState) == slices.Contains(states, state) {
					t.Error(kind, state, e)
				}
				if e == api.ErrState {
					refused(t, s, x, e)
				}
			}
		}
	}
}

// P20.1: TxHold, TxFree and TxCancel.
func TestHoldFreeCancel(t *testing.T) {
	comes(t, rich(), tx(api.TxHold, 1), nil, func(s *api.State) { s.Jobs[0].State = api.Held })
	comes(t, rich(), tx(api.TxFree, 2), nil, func(s *api.State) { s.Jobs[1].State = api.Queued })
	comes(t, rich(), tx(api.TxCancel, 1), nil, func(s *api.State) { s.Jobs = s.Jobs[1:] })
	comes(t, rich(), tx(api.TxCancel, 2), nil, func(s *api.State) { s.Jobs = slices.Delete(s.Jobs, 1, 2) })
	one := richWith(func(s *api.State) { s.Jobs = s.Jobs[:1] })
	comes(t, one, tx(api.TxCancel, 1), nil, func(s *api.State) { s.Jobs = nil })
	// What a job has beside its state stays.
	odd := richWith(func(s *api.State) {
		s.Jobs[0].Start, s.Jobs[0].Mask, s.Jobs[0].Used, s.Jobs[0].Draws = 5, 6, 7, []api.Draw{{Alloc: 9, Amount: -1}}
	})
	comes(t, odd, tx(api.TxHold, 1), nil, func(s *api.State) { s.Jobs[0].State = api.Held })
}

// P20.1, TxRequeue: what a job drew is free again, and it waits as if it had never run.
func TestRequeue(t *testing.T) {
	comes(t, rich(), tx(api.TxRequeue, 3), legsOf(2, -20, 1, 20, 5, -40, 4, 40), func(s *api.State) {
		s.Allocs[0].Avail, s.Allocs[0].Liened = 60, 0
		s.Allocs[1].Avail, s.Allocs[1].Liened = 240, 0
		s.Jobs[2] = api.Job{ID: 3, Fund: 1, Nodes: 3, Wall: 10, Price: 2, State: 1}
	})
	with := func(draws ...api.Draw) api.State {
		return richWith(func(s *api.State) { s.Jobs[2].Draws = draws })
	}
	waits := func(s *api.State) { s.Jobs[2].State, s.Jobs[2].Start, s.Jobs[2].Mask, s.Jobs[2].Draws = 1, 0, 0, nil }
	comes(t, with(), tx(api.TxRequeue, 3), nil, waits)
	comes(t, with(api.Draw{Alloc: 9}, api.Draw{Alloc: 0}), tx(api.TxRequeue, 3), nil, waits)
	// An allocation that there is not, one that has not so much, and amounts that do not fit.
	refused(t, with(api.Draw{Alloc: 3, Amount: 5}), tx(api.TxRequeue, 3), api.ErrNone)
	refused(t, with(api.Draw{Alloc: 0, Amount: 21}), tx(api.TxRequeue, 3), api.ErrFunds)
	refused(t, with(api.Draw{Alloc: 0, Amount: most + 1}), tx(api.TxRequeue, 3), api.ErrOver)
	refused(t, with(api.Draw{Alloc: 0, Amount: math.MinInt}), tx(api.TxRequeue, 3), api.ErrOver)
	refused(t, with(api.Draw{Alloc: 0, Amount: math.MaxInt}, api.Draw{Alloc: 3, Amount: 1}), tx(api.TxRequeue, 3), api.ErrNone)
}

// P20.1, TxEnd: what a job used is spent, draw by draw, and the rest is free again.
func TestEnd(t *testing.T) {
	ends := []struct {
		used  int
		legs  []api.Leg
		draws []api.Draw
		a, b  api.Alloc
	}{
		{0, legsOf(2, -20, 1, 20, 5, -40, 4, 40), nil, api.Alloc{Avail: 60, Spent: 5}, api.Alloc{Avail: 240, Spent: 2}},
		{1, legsOf(2, -20, 3, 6, 1, 14, 5, -40, 4, 40), []api.Draw{{Alloc: 0, Amount: 6}}, api.Alloc{Avail: 54, Spent: 11}, api.Alloc{Avail: 240, Spent: 2}},
		{4, legsOf(2, -20, 3, 20, 5, -40, 6, 4, 4, 36), []api.Draw{{Alloc: 0, Amount: 20}, {Alloc: 1, Amount: 4}}, api.Alloc{Avail: 40, Spent: 25}, api.Alloc{Avail: 236, Spent: 6}},
		{10, legsOf(2, -20, 3, 20, 5, -40, 6, 40), []api.Draw{{Alloc: 0, Amount: 20}, {Alloc: 1, Amount: 40}}, api.Alloc{Avail: 40, Spent: 25}, api.Alloc{Avail: 200, Spent: 42}},
	}
	for _, c := range ends {
		for _, time := range []int{0, 5, 9, last} {
			comes(t, rich(), txAt(time, api.TxEnd, 3, c.used), c.legs, func(s *api.State) {
				for k, a := range []api.Alloc{c.a, c.b} {
					s.Allocs[k].Avail, s.Allocs[k].Liened, s.Allocs[k].Spent = a.Avail, a.Liened, a.Spent
				}
				s.Jobs[2] = api.Job{ID: 3, Fund: 1, Nodes: 3, Wall: 10, Price: 2, State: 4, Start: 5, Used: c.used, Draws: c.draws}
			})
		}
	}
	for _, used := range []int{-1, 11, 12, math.MinInt, math.MaxInt} {
		refused(t, rich(), tx(api.TxEnd, 3, used), api.ErrArg)
	}
	one := richWith(func(s *api.State) { s.Jobs[2].Wall = 1 << 50 })
	refused(t, one, tx(api.TxEnd, 3, 1<<50+1), api.ErrArg)
	refused(t, one, tx(api.TxEnd, 3, 1<<50), api.ErrFunds)
}

// P20.1, TxEnd: the errors of what is paid for it, in their order.
func TestEndErrors(t *testing.T) {
	with := func(change func(j *api.Job)) api.State {
		return richWith(func(s *api.State) { change(&s.Jobs[2]) })
	}
	refused(t, with(func(j *api.Job) { j.Nodes = -1 }), tx(api.TxEnd, 3, 4), api.ErrArg)
	refused(t, with(func(j *api.Job) { j.Price = -1 }), tx(api.TxEnd, 3, 4), api.ErrArg)
	refused(t, with(func(j *api.Job) { j.Price = most }), tx(api.TxEnd, 3, 4), api.ErrOver)
	refused(t, with(func(j *api.Job) { j.Price, j.Draws = most, nil }), tx(api.TxEnd, 3, 4), api.ErrOver)
	refused(t, with(func(j *api.Job) { j.Price = 6 }), tx(api.TxEnd, 3, 4), api.ErrFunds)
	goes(t, with(func(j *api.Job) { j.Price = 5 }), tx(api.TxEnd, 3, 4))
	refused(t, with(func(j *api.Job) { j.Draws[1].Amount = -1 }), tx(api.TxEnd, 3, 1), api.ErrFunds)
	refused(t, with(func(j *api.Job) { j.Draws[1].Alloc = 3 }), tx(api.TxEnd, 3, 1), api.ErrNone)
	refused(t, with(func(j *api.Job) { j.Draws[1].Amount = 41 }), tx(api.TxEnd, 3, 1), api.ErrFunds)
	refused(t, with(func(j *api.Job) { j.Draws[1].Amount = most + 1 }), tx(api.TxEnd, 3, 1), api.ErrOver)
	refused(t, with(func(j *api.Job) { j.Draws[1].Amount = math.MaxInt }), tx(api.TxEnd, 3, 10), api.ErrOver)
	// One that is for nothing has no legs at all.
	comes(t, with(func(j *api.Job) { j.Price, j.Draws = 0, nil }), tx(api.TxEnd, 3, 4), nil, func(s *api.State) {
		s.Jobs[2].State, s.Jobs[2].Used, s.Jobs[2].Mask = 4, 4, 0
	})
	comes(t, with(func(j *api.Job) { j.Draws = []api.Draw{{Alloc: 9}, {Alloc: 1, Amount: 40}, {Alloc: 8}} }), tx(api.TxEnd, 3, 4), legsOf(5, -40, 6, 24, 4, 16), func(s *api.State) {
		s.Allocs[1].Avail, s.Allocs[1].Liened, s.Allocs[1].Spent = 216, 0, 26
		s.Jobs[2].State, s.Jobs[2].Used, s.Jobs[2].Mask, s.Jobs[2].Draws = 4, 4, 0, []api.Draw{{Alloc: 1, Amount: 24}}
	})
}

// P20.1, TxRefund: of what was charged some is given back, draw by draw, until there is nothing left.
func TestRefund(t *testing.T) {
	three := []api.Draw{{Alloc: 2, Amount: 9}, {Alloc: 0, Amount: 5}, {Alloc: 1, Amount: 2}}
	for _, c := range []struct {
		amount int
		legs   []api.Leg
		left   []api.Draw
		back   []int
	}{
		{1, legsOf(9, -1, 7, 1), []api.Draw{{Alloc: 2, Amount: 8}, three[1], three[2]}, []int{0, 0, 1}},
		{9, legsOf(9, -9, 7, 9), three[1:], []int{0, 0, 9}},
		{10, legsOf(9, -9, 7, 9, 3, -1, 1, 1), []api.Draw{{Alloc: 0, Amount: 4}, three[2]}, []int{1, 0, 9}},
		{15, legsOf(9, -9, 7, 9, 3, -5, 1, 5, 6, -1, 4, 1), []api.Draw{{Alloc: 1, Amount: 1}}, []int{5, 1, 9}},
		{16, legsOf(9, -9, 7, 9, 3, -5, 1, 5, 6, -2, 4, 2), nil, []int{5, 2, 9}},
	} {
		comes(t, rich(), withKey(tx(api.TxRefund, 4, c.amount), "k"), c.legs, func(s *api.State) {
			s.Jobs[3].Draws = c.left
			for a, n := range c.back {
				s.Allocs[a].Avail += n
				s.Allocs[a].Spent -= n
			}
		})
	}
	for _, amount := range []int{17, 1000, most, math.MaxInt} {
		refused(t, rich(), tx(api.TxRefund, 4, amount), api.ErrFunds)
	}
	for _, amount := range []int{0, -1, math.MinInt} {
		refused(t, rich(), tx(api.TxRefund, 4, amount), api.ErrArg)
	}
	with := func(draws ...api.Draw) api.State {
		return richWith(func(s *api.State) { s.Jobs[3].Draws = draws })
	}
	refused(t, with(), tx(api.TxRefund, 4, 1), api.ErrFunds)
	refused(t, with(three[0], api.Draw{Alloc: 0, Amount: -1}), tx(api.TxRefund, 4, 1), api.ErrFunds)
	refused(t, with(three[0], api.Draw{Alloc: 5, Amount: 9}), tx(api.TxRefund, 4, 10), api.ErrNone)
	goes(t, with(three[0], api.Draw{Alloc: 5, Amount: 9}), tx(api.TxRefund, 4, 9))
	refused(t, with(api.Draw{Alloc: 2, Amount: 10}), tx(api.TxRefund, 4, 10), api.ErrFunds)
	refused(t, with(api.Draw{Alloc: 2, Amount: math.MaxInt}), tx(api.TxRefund, 4, most+1), api.ErrOver)
	// Those that had nothing go too.
	comes(t, with(api.Draw{Alloc: 9}, three[0], api.Draw{Alloc: 1}), tx(api.TxRefund, 4, 2), legsOf(9, -2, 7, 2), func(s *api.State) {
		s.Allocs[2].Avail, s.Allocs[2].Spent = 9, 7
		s.Jobs[3].Draws = []api.Draw{{Alloc: 2, Amount: 7}}
	})
}

// P20.1, TxStart: the price is drawn on its fund, and on those above, and liened.
func TestStart(t *testing.T) {
	comes(t, rich(), tx(api.TxStart, 1, 50), legsOf(1, -40, 2, 40, 4, -20, 5, 20), func(s *api.State) {
		s.Allocs[0].Avail, s.Allocs[0].Liened = 0, 60
		s.Allocs[1].Avail, s.Allocs[1].Liened = 180, 60
		s.Jobs[0] = api.Job{ID: 1, Fund: 1, Nodes: 3, Wall: 10, Price: 2, State: 3, Start: 7, Mask: 50, Draws: []api.Draw{{Alloc: 0, Amount: 40}, {Alloc: 1, Amount: 20}}}
	})
	sub := richWith(func(s *api.State) { s.Jobs[0].Fund = 2 })
	comes(t, sub, tx(api.TxStart, 1, 7<<29), legsOf(7, -7, 8, 7, 1, -40, 2, 40, 4, -13, 5, 13), func(s *api.State) {
		s.Allocs[0].Avail, s.Allocs[0].Liened = 0, 60
		s.Allocs[1].Avail, s.Allocs[1].Liened = 187, 53
		s.Allocs[2].Avail, s.Allocs[2].Liened = 0, 7
		s.Jobs[0].State, s.Jobs[0].Start, s.Jobs[0].Mask = 3, 7, 7<<29
		s.Jobs[0].Draws = []api.Draw{{Alloc: 2, Amount: 7}, {Alloc: 0, Amount: 40}, {Alloc: 1, Amount: 13}}
	})
	// Only what is open at that tick is drawn on.
	refused(t, rich(), txAt(20, api.TxStart, 1, 50), api.ErrFunds)
	goes(t, rich(), txAt(19, api.TxStart, 1, 50))
	refused(t, richWith(func(s *api.State) { s.Jobs[0].Price = 9 }), tx(api.TxStart, 1, 50), api.ErrFunds)
	goes(t, richWith(func(s *api.State) { s.Jobs[0].Price = 8 }), tx(api.TxStart, 1, 50))
	// For nothing it starts without money, whatever there is.
	free := richWith(func(s *api.State) { s.Jobs[0].Price, s.Allocs, s.Jobs[2].Draws, s.Jobs[3].Draws = 0, nil, nil, nil })
	comes(t, free, txAt(last, api.TxStart, 1, 50), nil, func(s *api.State) {
		s.Jobs[0].State, s.Jobs[0].Start, s.Jobs[0].Mask = 3, last, 50
	})
}

// P20.1, TxStart: on as many nodes as it wants, of those from 0 to 31, none of them a job's that runs.
func TestStartNodes(t *testing.T) {
	for _, mask := range []int{0, 1, 16, 18, 114, 1 << 31, 1<<32 - 1, 1<<32 + 18, 1<<32 + 50, 1 << 40, 7 << 30, -1, -50, math.MinInt, math.MinInt | 50, math.MaxInt} {
		refused(t, rich(), tx(api.TxStart, 1, mask), api.ErrArg)
	}
	// Those of job 3 are nodes 0, 2 and 3.
	for first := range 30 {
		x := tx(api.TxStart, 1, 7<<first)
		if first <= 3 {
			refused(t, rich(), x, api.ErrNodes)
		} else {
			goes(t, rich(), x)
		}
	}
	for node := range 32 {
		s := richWith(func(s *api.State) { s.Jobs[0].Nodes, s.Jobs[2].Mask = 1, 13 })
		if node == 0 || node == 2 || node == 3 {
			refused(t, s, tx(api.TxStart, 1, 1<<node), api.ErrNodes)
		} else {
			goes(t, s, tx(api.TxStart, 1, 1<<node))
		}
	}
	// Only jobs that run have nodes.
	idle := richWith(func(s *api.State) { s.Jobs[1].Mask, s.Jobs[3].Mask = 1<<32-1, 1<<32-1 })
	goes(t, idle, tx(api.TxStart, 1, 50))
	all := richWith(func(s *api.State) { s.Jobs[0].Nodes, s.Jobs[0].Price, s.Jobs[2].Mask = 32, 0, 0 })
	goes(t, all, tx(api.TxStart, 1, 1<<32-1))
	refused(t, all, tx(api.TxStart, 1, 1<<32-2), api.ErrArg)
	refused(t, all, tx(api.TxStart, 1, -1), api.ErrArg)
	none := richWith(func(s *api.State) { s.Jobs[0].Nodes = 0 })
	comes(t, none, tx(api.TxStart, 1, 0), nil, func(s *api.State) { s.Jobs[0].State, s.Jobs[0].Start = 3, 7 })
	refused(t, none, tx(api.TxStart, 1, 1<<32), api.ErrArg)
	refused(t, none, tx(api.TxStart, 1, math.MinInt), api.ErrArg)
}

// R2: TxStart's errors, in their order.
func TestStartErrors(t *testing.T) {
	with := func(change func(s *api.State)) api.State { return richWith(change) }
	// Nodes that are no job's are asked for ahead of the price.
	refused(t, with(func(s *api.State) { s.Jobs[0].Price = -1 }), tx(api.TxStart, 1, 7), api.ErrNodes)
	refused(t, with(func(s *api.State) { s.Jobs[0].Price = -1 }), tx(api.TxStart, 1, 50), api.ErrArg)
	refused(t, with(func(s *api.State) { s.Jobs[0].Price = most / 2 }), tx(api.TxStart, 1, 50), api.ErrOver)
	refused(t, with(func(s *api.State) { s.Jobs[0].Price, s.Jobs[0].Fund = most/2, 9 }), tx(api.TxStart, 1, 50), api.ErrOver)
	refused(t, with(func(s *api.State) { s.Jobs[0].Fund = 3 }), tx(api.TxStart, 1, 50), api.ErrNone)
	refused(t, with(func(s *api.State) { s.Jobs[0].Fund, s.Jobs[0].Price = -1, 0 }), tx(api.TxStart, 1, 50), api.ErrNone)
	// What is liened may not fit, and limits are looked at behind that.
	full := with(func(s *api.State) { s.Allocs[0].Liened, s.Funds[0].Limit = most, 5 })
	refused(t, full, tx(api.TxStart, 1, 50), api.ErrOver)
	owing := with(func(s *api.State) { s.Allocs[0].Liened, s.Funds[0].Limit = -41, 5 })
	refused(t, owing, tx(api.TxStart, 1, 50), api.ErrFunds)
}

// P20.1, TxExpire: what is available where it is good no more goes back to the world.
func TestExpire(t *testing.T) {
	for _, time := range []int{0, 1, 19} {
		refused(t, rich(), txAt(time, api.TxExpire), api.ErrNone)
	}
	gone := func(list ...int) func(s *api.State) {
		return func(s *api.State) {
			for _, a := range list {
				s.World += s.Allocs[a].Avail
				s.Allocs[a].Avail = 0
			}
		}
	}
	comes(t, rich(), txAt(20, api.TxExpire), legsOf(4, -200, 0, 200), gone(1))
	comes(t, rich(), txAt(49, api.TxExpire), legsOf(4, -200, 0, 200), gone(1))
	comes(t, rich(), txAt(50, api.TxExpire), legsOf(1, -40, 0, 40, 4, -200, 0, 200), gone(0, 1))
	comes(t, rich(), txAt(98, api.TxExpire), legsOf(1, -40, 0, 40, 4, -200, 0, 200), gone(0, 1))
	all := comes(t, rich(), txAt(99, api.TxExpire), legsOf(1, -40, 0, 40, 4, -200, 0, 200, 7, -7, 0, 7), gone(0, 1, 2))
	refused(t, all, txAt(last, api.TxExpire), api.ErrNone)
	refused(t, book.New(), txAt(last, api.TxExpire), api.ErrNone)
	// One with nothing, or less, is passed over.
	some := richWith(func(s *api.State) { s.Allocs[0].Avail, s.Allocs[1].Avail = 0, -5 })
	refused(t, some, txAt(98, api.TxExpire), api.ErrNone)
	comes(t, some, txAt(99, api.TxExpire), legsOf(7, -7, 0, 7), gone(2))
	refused(t, richWith(func(s *api.State) { s.World = -199 }), txAt(20, api.TxExpire), api.ErrFunds)
	goes(t, richWith(func(s *api.State) { s.World = -200 }), txAt(20, api.TxExpire))
	refused(t, richWith(func(s *api.State) { s.Allocs[1].Avail = most + 1 }), txAt(20, api.TxExpire), api.ErrOver)
	refused(t, richWith(func(s *api.State) { s.Allocs[1].Avail = math.MaxInt }), txAt(20, api.TxExpire), api.ErrOver)
	// Sixteen at once.
	many := richWith(func(s *api.State) {
		s.World, s.Allocs, s.Jobs = -136, nil, nil
		for k := range 16 {
			s.Allocs = append(s.Allocs, api.Alloc{Until: 30 - k, Avail: k + 1})
		}
	})
	if after := goes(t, many, txAt(30, api.TxExpire)); after.World != 0 || after.Allocs[15].Avail != 0 {
		t.Error(after)
	}
}

// P20.1: behind each transaction all limits must hold; of a fund all below it counts.
func TestLimitHolds(t *testing.T) {
	for f, use := range []int{76, 34, 9} {
		for _, limit := range []int{0, 1, use - 1, use, use + 1} {
			s := richWith(func(s *api.State) { s.Funds[f].Limit = limit })
			for _, x := range good() {
				if x.Kind == api.TxStart || x.Kind == api.TxEnd || x.Kind == api.TxRequeue || x.Kind == api.TxRefund {
					continue
				}
				_, e := same(t, s, x)
				isOver := limit > 0 && sum(s, f) > limit
				if isOver != (e == api.ErrLimit) || !isOver && e != api.OK {
					t.Error(f, limit, x.Kind, e)
				}
			}
		}
	}
	// To start takes 60: 40 of an allocation of fund 1, which counts for 0 too, and 20 of one of fund 0.
	for f, takes := range []int{60, 40, 0} {
		for more := takes - 2; more <= takes+2; more++ {
			s := richWith(func(s *api.State) { s.Funds[f].Limit = sum(*s, f) + more })
			if more < takes {
				refused(t, s, tx(api.TxStart, 1, 50), api.ErrLimit)
			} else {
				goes(t, s, tx(api.TxStart, 1, 50))
			}
		}
	}
}

// sum: what is liened and spent of one of rich's funds, and of those below it.
func sum(s api.State, f int) int {
	n := 0
	for _, a := range s.Allocs {
		if a.Fund >= f {
			n += a.Liened + a.Spent
		}
	}
	return n
}

// P20.1: a limit counts as it is behind the transaction: what gives back may be done where it did not hold.
func TestLimitIsLookedAtBehind(t *testing.T) {
	over := func(more int) api.State {
		return richWith(func(s *api.State) { s.Funds[0].Limit = sum(*s, 0) + more })
	}
	for _, c := range []struct {
		x    api.Tx
		less int
	}{{tx(api.TxRequeue, 3), 60}, {tx(api.TxEnd, 3, 4), 36}, {tx(api.TxEnd, 3, 9), 6}, {tx(api.TxRefund, 4, 3), 3}, {tx(api.TxRefund, 4, 16), 16}} {
		goes(t, over(-c.less), c.x)
		refused(t, over(-c.less-1), c.x, api.ErrLimit)
		refused(t, over(-c.less), tx(api.TxHold, 1), api.ErrLimit)
	}
	// The transaction's own errors, and those of its legs, are told ahead of it.
	refused(t, over(-1), tx(api.TxHold, 9), api.ErrNone)
	refused(t, over(-1), tx(api.TxWithdraw, 0, 41), api.ErrFunds)
	refused(t, over(-1), tx(api.TxDeposit, 0, most), api.ErrOver)
	refused(t, over(-1), named("new", 9, 0), api.ErrArg)
	refused(t, over(-1), withKey(tx(api.TxHold, 1), "k"), api.ErrArg)
	// One more fund, or allocation, has no use of its own.
	goes(t, rich(), named("new", 2, 1))
	goes(t, over(0), tx(api.TxAlloc, 0, 0, 9, 999))
	// What does not fit is over any limit, and of no limit over none.
	refused(t, richWith(func(s *api.State) { s.Allocs[2].Spent = most }), tx(api.TxHold, 1), api.ErrLimit)
	goes(t, richWith(func(s *api.State) { s.Allocs[2].Spent, s.Funds[0].Limit = most, 0 }), tx(api.TxHold, 1))
}

// P20.1: sixteen draws, which are as many as there may be.
func TestManyDraws(t *testing.T) {
	s := book.New()
	s = goes(t, s, named("a", -1, 0))
	for k := range 16 {
		s = goes(t, s, tx(api.TxAlloc, 0, 0, 99-k, k+1))
	}
	s = goes(t, s, tx(api.TxSubmit, 0, 17, 8, 0, 0, 1))
	s = goes(t, s, tx(api.TxStart, 1, 1<<17-1))
	if draws := s.Jobs[0].Draws; len(draws) != 16 || draws[0] != (api.Draw{Alloc: 15, Amount: 16}) || draws[15] != (api.Draw{Alloc: 0, Amount: 1}) {
		t.Error(draws)
	}
	isRight(t, goes(t, s, tx(api.TxRequeue, 1)))
	isRight(t, goes(t, s, tx(api.TxEnd, 1, 1)))
	s = goes(t, s, tx(api.TxEnd, 1, 8))
	s = goes(t, s, tx(api.TxRefund, 1, 135))
	if draws := s.Jobs[0].Draws; !slices.Equal(draws, []api.Draw{{Alloc: 0, Amount: 1}}) {
		t.Error(draws)
	}
	isRight(t, goes(t, s, tx(api.TxRefund, 1, 1)))
}

// R1: numbers at their ends, in a state and in what is asked for, panic nowhere.
func TestAnyArgument(t *testing.T) {
	ends := []int{math.MinInt, math.MinInt + 1, -most - 1, -1, 0, 1, 3, 15, 16, 32, last, most, most + 1, math.MaxInt}
	for _, n := range ends {
		for _, m := range ends {
			s := richWith(func(s *api.State) {
				s.World = -n
				for k := range s.Funds {
					s.Funds[k].Parent, s.Funds[k].Limit = n, m
				}
				s.Allocs[0] = api.Alloc{Fund: m, From: n, Until: m, Avail: n, Liened: m, Spent: n}
				s.Rates[0] = api.Rate{QoS: n, From: m, Price: n}
				for k := range s.Jobs {
					j := &s.Jobs[k]
					j.Fund, j.Nodes, j.QoS, j.Prio, j.Price, j.Mask, j.Used = n, m, n, m, n, m, n
					for i := range j.Draws {
						j.Draws[i].Amount = m
					}
				}
			})
			for _, x := range good() {
				same(t, s, x)
				for k := range x.Args {
					x.Args[k] = n
					same(t, rich(), x)
				}
				same(t, rich(), x)
			}
		}
	}
}

// R1: beyond the chapter's brackets, of which nothing is promised, the calls still end.
func TestBeyondBrackets(t *testing.T) {
	for _, n := range []int{math.MinInt, -7, 17, math.MaxInt} {
		s := richWith(func(s *api.State) {
			s.Seq, s.Next = n, n
			s.Funds = slices.Repeat(s.Funds, 9)
			s.Allocs = slices.Repeat(s.Allocs, 9)
			s.Rates = slices.Repeat(s.Rates, 40)
			s.Jobs = slices.Repeat(s.Jobs, 9)
			s.Keys = slices.Repeat(s.Keys, 40)
			for k := range s.Jobs {
				s.Jobs[k].Start, s.Jobs[k].Wall = n, -n
				s.Jobs[k].Draws = slices.Repeat([]api.Draw{{Alloc: n, Amount: 1}, {Alloc: 20, Amount: n}}, 20)
			}
		})
		for _, x := range good() {
			full, _ := book.Fill(s, x)
			book.Apply(s, full)
			book.Apply(s, x)
		}
	}
}

// spoil: all that there is of a state, spare room too, becomes something else.
func spoil(s api.State) {
	for k := range s.Jobs[:cap(s.Jobs)] {
		j := s.Jobs[:cap(s.Jobs)][k]
		for i := range j.Draws[:cap(j.Draws)] {
			j.Draws[:cap(j.Draws)][i] = api.Draw{Alloc: -9, Amount: -9}
		}
		s.Jobs[:cap(s.Jobs)][k] = api.Job{ID: -9}
	}
	for k := range s.Funds[:cap(s.Funds)] {
		s.Funds[:cap(s.Funds)][k] = api.Fund{Name: "spoilt"}
	}
	for k := range s.Allocs[:cap(s.Allocs)] {
		s.Allocs[:cap(s.Allocs)][k] = api.Alloc{Fund: -9}
	}
	for k := range s.Rates[:cap(s.Rates)] {
		s.Rates[:cap(s.Rates)][k] = api.Rate{QoS: -9}
	}
	for k := range s.Keys[:cap(s.Keys)] {
		s.Keys[:cap(s.Keys)][k] = "spoilt"
	}
}

func spoilTx(x api.Tx) {
	for k := range x.Args[:cap(x.Args)] {
		x.Args[:cap(x.Args)][k] = -9
	}
	for k := range x.Legs[:cap(x.Legs)] {
		x.Legs[:cap(x.Legs)][k] = api.Leg{Acct: -9}
	}
}

// R4, R5: what is answered is new memory: to spoil it changes neither what was handed in nor another answer, and the other way round.
func TestAnswersAreNew(t *testing.T) {
	for _, x := range good() {
		if x.Kind <= api.TxSubmit || x.Kind == api.TxRefund {
			x.Key = "k"
		}
		want, wantFull, _ := words(rich(), x)
		given, asked := roomyState(rich()), roomyTx(x)
		one, _ := book.Fill(given, asked)
		full, _ := book.Fill(given, asked)
		other := deepTx(full)
		first, _ := book.Apply(given, full)
		second, e := book.Apply(given, full)
		spoilTx(one)
		spoil(first)
		if e != api.OK || !reflect.DeepEqual(deep(second), want) || !reflect.DeepEqual(deepTx(full), deepTx(wantFull)) {
			t.Errorf("%+v %+v", second, full)
		}
		if !reflect.DeepEqual(wholeState(given), wholeState(roomyState(rich()))) || !reflect.DeepEqual(wholeTx(asked), wholeTx(roomyTx(x))) {
			t.Errorf("%+v %+v", given, asked)
		}
		again, _ := book.Apply(given, full)
		spoilTx(full)
		spoilTx(asked)
		spoil(given)
		if !reflect.DeepEqual(deep(second), want) || !reflect.DeepEqual(deep(again), want) || !reflect.DeepEqual(other, deepTx(wantFull)) {
			t.Errorf("%+v %+v", second, again)
		}
	}
}

// R5: whatever was asked in between, the same answer comes again.
func TestNothingIsKept(t *testing.T) {
	for range 2 {
		for _, x := range good() {
			after, full, _ := words(rich(), x)
			fillIs(t, rich(), x, full, api.OK)
			applyIs(t, rich(), full, after, api.OK)
			applyIs(t, rich(), x, api.State{}, api.ErrForm)
			fillIs(t, after, withKey(tx(api.TxDeposit, 0, 0), "a"), api.Tx{}, api.ErrTwice)
		}
	}
}
