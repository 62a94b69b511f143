package rule_test

import (
	"math"
	"math/rand"
	"reflect"
	"slices"
	"testing"

	"prebend/api"
	"prebend/book"
	"prebend/job"
	"prebend/rule"
)

const (
	most = 1 << 60
	last = 1 << 40
)

func TestLimits(t *testing.T) {
	if api.MaxNodes != 32 || api.MaxDisk != 1024 || api.Easy != 1 || api.Strict != 2 {
		t.Error(api.MaxNodes, api.MaxDisk, api.Easy, api.Strict)
	}
	if api.TxFund != 1 || api.TxSubmit != 7 || api.TxEnd != 12 || api.TxRefund != 13 || api.TxStart != 14 || api.TxExpire != 15 {
		t.Error(api.TxFund, api.TxSubmit, api.TxEnd, api.TxRefund, api.TxStart, api.TxExpire)
	}
}

// near: these numbers, those beside them, and some at all ends.
func near(list ...int) []int {
	var all []int
	for _, n := range list {
		all = append(all, n-1, n, n+1)
	}
	return append(all, math.MinInt, math.MinInt+1, math.MaxInt, math.MaxInt-1, -most, 1<<32, 1<<62, -1<<62)
}

func checkIs(t *testing.T, c api.Config, mayBe bool) {
	t.Helper()
	want := api.ErrArg
	if mayBe {
		want = api.OK
	}
	if e := rule.Check(c); e != want {
		t.Errorf("Check(%+v) is %d; it should be %d", c, e, want)
	}
}

// P21.1: each number, with those beside its ends, and all others as they may be.
func TestCheckEach(t *testing.T) {
	for _, n := range near(0, 1, 2, 16, 31, 32, 33, 64) {
		checkIs(t, api.Config{Nodes: n, Mode: api.Easy, Slot: 100, Log: 100}, 1 <= n && n <= 32)
		checkIs(t, api.Config{Nodes: 4, Mode: n, Slot: 100, Log: 100}, n == 1 || n == 2)
	}
	for _, n := range near(0, 4, 100, 399, 400, 512) {
		checkIs(t, api.Config{Nodes: 4, Mode: api.Strict, Slot: n, Log: 60}, 4 <= n && n <= 400)
	}
	for _, n := range near(0, 60, 100, 999, 1000, 1016, 1024) {
		checkIs(t, api.Config{Nodes: 4, Mode: api.Strict, Slot: 4, Log: n}, 60 <= n && n <= 1000)
	}
	checkIs(t, api.Config{}, false)
}

// P21.1: both places of a checkpoint and the log have what there is, or less.
func TestCheckTogether(t *testing.T) {
	for slot := 0; slot <= 420; slot++ {
		for log := 50; log <= 1020; log++ {
			mayBe := slot >= 4 && slot <= 400 && log >= 60 && log <= 1000 && slot+slot+log <= 1024
			if (rule.Check(api.Config{Nodes: 32, Mode: 2, Slot: slot, Log: log}) == api.OK) != mayBe {
				t.Fatal(slot, log)
			}
		}
	}
	for _, c := range []struct {
		slot, log int
		mayBe     bool
	}{{12, 1000, true}, {13, 1000, false}, {400, 224, true}, {400, 225, false}, {399, 226, true}, {399, 227, false}} {
		checkIs(t, api.Config{Nodes: 1, Mode: 1, Slot: c.slot, Log: c.log}, c.mayBe)
	}
}

// P21.1: several may not be at once.
func TestCheckAtRandom(t *testing.T) {
	r := rand.New(rand.NewSource(1))
	count := 0
	for range 20000 {
		n := near(1, 2, 4, 32, 60, 100, 400, 1000)
		one := func() int { return n[r.Intn(len(n))] }
		c := api.Config{Nodes: one(), Mode: 1 + r.Intn(2), Slot: one(), Log: one()}
		mayBe := c.Nodes > 0 && c.Nodes < 33 && c.Slot > 3 && c.Slot < 401 && c.Log > 59 && c.Log < 1001
		mayBe = mayBe && c.Slot+c.Slot+c.Log < 1025
		checkIs(t, c, mayBe)
		if mayBe {
			count++
		}
	}
	if count < 500 {
		t.Error("too few may be", count)
	}
}

// four: a config of so many nodes.
func four(mode int) api.Config { return api.Config{Nodes: 4, Mode: mode, Slot: 100, Log: 100} }

// rich: a state with all that there is: the job 1 is queued, 2 held, 3 runs, 4 is done.
func rich() api.State {
	return api.State{
		Seq: 10, World: -323, Next: 5,
		Funds: []api.Fund{{Name: "root", Parent: -1, Limit: 1000}, {Name: "lab", Parent: 0}, {Name: "sub", Parent: 1}},
		Allocs: []api.Alloc{
			{Fund: 1, Until: 50, Avail: 40, Liened: 20, Spent: 5},
			{Fund: 0, Until: 20, Avail: 200, Liened: 40, Spent: 2},
			{Fund: 2, From: 3, Until: 99, Avail: 7, Spent: 9},
		},
		Rates: []api.Rate{{Price: 2}, {QoS: 3, From: 9, Price: 7}, {QoS: 3, From: 5, Price: 4}, {QoS: 7, Price: 0}},
		Jobs: []api.Job{
			{ID: 1, Fund: 1, Nodes: 3, Wall: 10, Price: 2, State: api.Queued},
			{ID: 2, Fund: 1, Nodes: 1, Wall: 10, QoS: 3, Prio: 9, Price: 2, State: api.Held},
			{ID: 3, Fund: 1, Nodes: 3, Wall: 10, Price: 2, State: api.Running, Start: 5, Mask: 13, Draws: []api.Draw{{Alloc: 0, Amount: 20}, {Alloc: 1, Amount: 40}}},
			{ID: 4, Fund: 2, Nodes: 2, Wall: 8, Price: 2, State: api.Done, Start: 1, Used: 4, Draws: []api.Draw{{Alloc: 2, Amount: 9}, {Alloc: 0, Amount: 5}, {Alloc: 1, Amount: 2}}},
		},
		Keys: []string{"a", "b"},
	}
}

// richWith: that, but for a change.
func richWith(change func(s *api.State)) api.State {
	s := rich()
	change(&s)
	return s
}

func asks(kind int, args ...int) api.Cmd { return api.Cmd{Kind: kind, Args: args} }

func endAt(now, id, used int) api.Tx {
	return api.Tx{Time: now, Kind: api.TxEnd, Args: []int{id, used}}
}

func startAt(now, id, mask int) api.Tx {
	return api.Tx{Time: now, Kind: api.TxStart, Args: []int{id, mask}}
}

func expireAt(now int) api.Tx { return api.Tx{Time: now, Kind: api.TxExpire} }

// comes: a command's transaction has these Args.
func comes(t *testing.T, s api.State, now int, x api.Cmd, args ...int) {
	t.Helper()
	txIs(t, four(1), s, now, x, api.Tx{Time: now, Kind: x.Kind, Key: x.Key, Name: x.Name, Args: args}, api.OK)
	sameTxOf(t, four(1), s, now, x)
}

// refused: a command has no transaction.
func refused(t *testing.T, s api.State, now int, x api.Cmd, e api.Errno) {
	t.Helper()
	txIs(t, four(1), s, now, x, api.Tx{}, e)
	sameTxOf(t, four(1), s, now, x)
}

// The chapter's example.
func TestExample(t *testing.T) {
	s := api.State{Next: 1, Funds: []api.Fund{{Name: "a", Parent: -1}}, Allocs: []api.Alloc{{Until: 99, Avail: 100}}, World: -100, Rates: []api.Rate{{Price: 2}}}
	submit, e := rule.Tx(four(1), s, 5, asks(api.TxSubmit, 0, 2, 10, 0, 0))
	if e != api.OK {
		t.Fatal(e)
	}
	s, e = done(s, submit)
	if e != api.OK {
		t.Fatal(submit, e)
	}
	start, e := rule.Start(four(1), s, 5, 1)
	if e != api.OK {
		t.Fatal(e)
	}
	s, e = done(s, start)
	if e != api.OK {
		t.Fatal(start, e)
	}
	comes(t, s, 9, asks(api.TxEnd, 1), 1, 4)
	end, _ := rule.Tx(four(1), s, 9, asks(api.TxEnd, 1))
	s, e = done(s, end)
	if want := (api.Alloc{Until: 99, Avail: 84, Spent: 16}); e != api.OK || s.Allocs[0] != want {
		t.Error(s, e)
	}
}

// P21.2: only commands of the Kinds up to TxRefund ask for a transaction, each with so many Args.
func TestTxKinds(t *testing.T) {
	counts := []int{0, 2, 4, 2, 2, 3, 3, 5, 1, 1, 1, 1, 1, 2}
	kinds := near(0, 5, 13, 14, 15, 16)
	for kind := range 40 {
		kinds = append(kinds, kind)
	}
	for _, kind := range kinds {
		for many := range 10 {
			x := asks(kind, []int{3, 1, 1, 0, 0, 0, 0, 0, 0}[:min(many, 9)]...)
			if kind < 1 || kind > 13 || many != counts[kind] {
				refused(t, rich(), 9, x, api.ErrArg)
				continue
			}
			want := slices.Clone(x.Args)
			if kind == api.TxSubmit {
				want = append(want, 2)
			}
			if kind == api.TxEnd {
				want = append(want, 4)
			}
			comes(t, rich(), 9, x, want...)
		}
	}
}

// P21.2: Key, Name and Args are as they stand, whether or not the transaction may be done.
func TestTxIsAsAsked(t *testing.T) {
	texts := []string{"", "k", "a", "0123456789abcdef", "0123456789abcdefg", "\x00\xff"}
	for kind, many := range argsBy() {
		if kind == 0 {
			continue
		}
		for _, key := range texts {
			for _, name := range texts {
				x := api.Cmd{Kind: kind, Key: key, Name: name, Args: []int{3, 1, 1, 0, 0}[:many[1]]}
				if e := sameTxOf(t, four(1), rich(), 9, x); e != api.OK {
					t.Error(x, e)
				}
			}
		}
		for _, n := range near(0) {
			if kind != api.TxSubmit && kind != api.TxEnd {
				args := slices.Repeat([]int{n}, many[1])
				comes(t, rich(), 9, asks(kind, args...), args...)
			}
		}
	}
	comes(t, rich(), 9, asks(api.TxHold, 99), 99)
	comes(t, rich(), 9, asks(api.TxRequeue, 1), 1)
	comes(t, rich(), 9, asks(api.TxDeposit, 99, -5), 99, -5)
	comes(t, api.State{}, 0, asks(api.TxTransfer, 0, 0, 0), 0, 0, 0)
}

// P21.2: Time is now.
func TestTxTime(t *testing.T) {
	for _, now := range []int{0, 1, 9, last - 1, last} {
		comes(t, rich(), now, asks(api.TxCancel, 1), 1)
		comes(t, rich(), now, asks(api.TxSubmit, 0, 1, 1, 0, 0), 0, 1, 1, 0, 0, 2)
		comes(t, rich(), now, asks(api.TxEnd, 3), 3, min(10, max(0, now-5)))
	}
}

// P21.2: TxSubmit wants no more nodes than there are, and has the price of its class at that tick as its last Arg.
func TestTxSubmit(t *testing.T) {
	for _, nodes := range []int{0, -1, 1, 4} {
		comes(t, rich(), 9, asks(api.TxSubmit, 1, nodes, 10, 0, 5), 1, nodes, 10, 0, 5, 2)
	}
	for _, nodes := range []int{5, 32, 33, math.MaxInt} {
		refused(t, rich(), 9, asks(api.TxSubmit, 1, nodes, 10, 0, 5), api.ErrNodes)
	}
	for _, c := range []struct{ now, qos, price int }{{0, 0, 2}, {9, 0, 2}, {5, 3, 4}, {8, 3, 4}, {9, 3, 7}, {last, 3, 7}, {0, 7, 0}} {
		comes(t, rich(), c.now, asks(api.TxSubmit, 0, 1, 10, c.qos, 0), 0, 1, 10, c.qos, 0, c.price)
	}
	for _, c := range [][2]int{{4, 3}, {0, 3}, {9, 1}, {9, -1}, {9, 8}, {9, math.MaxInt}, {9, math.MinInt}} {
		refused(t, rich(), c[0], asks(api.TxSubmit, 0, 1, 10, c[1], 0), api.ErrRate)
	}
	// The Args that the transaction itself may refuse are nothing to the command.
	comes(t, rich(), 9, asks(api.TxSubmit, 99, 1, -7, 0, 1<<50), 99, 1, -7, 0, 1<<50, 2)
	refused(t, api.State{}, 9, asks(api.TxSubmit, 0, 1, 1, 0, 0), api.ErrRate)
}

// P21.2: of two errors the first one that is named.
func TestTxSubmitErrors(t *testing.T) {
	refused(t, rich(), 9, asks(api.TxSubmit, 0, 5, 10, 1, 0), api.ErrNodes)
	refused(t, rich(), 9, asks(api.TxSubmit, 0, 5, 10, 1, 0, 2), api.ErrArg)
	refused(t, rich(), 9, asks(api.TxSubmit, 0, 5, 10, 1), api.ErrArg)
	refused(t, rich(), 9, asks(api.TxEnd, 1, 0), api.ErrArg)
	refused(t, rich(), 9, asks(api.TxEnd), api.ErrArg)
}

// P21.2: how many nodes there are is the config's, whatever that is.
func TestTxSubmitConfig(t *testing.T) {
	for _, nodes := range near(0, 1, 32) {
		for _, wants := range near(0, 1, 32) {
			x := asks(api.TxSubmit, 0, wants, 1, 0, 0)
			e := sameTxOf(t, api.Config{Nodes: nodes}, rich(), 9, x)
			if (e == api.ErrNodes) != (wants > nodes) {
				t.Error(nodes, wants, e)
			}
		}
	}
}

// P21.2: of several rates of one tick the last one holds.
func TestTxSubmitLastRate(t *testing.T) {
	s := richWith(func(s *api.State) {
		s.Rates = []api.Rate{{From: 5, Price: 1}, {From: 5, Price: 3}, {From: 2, Price: 8}}
	})
	comes(t, s, 5, asks(api.TxSubmit, 0, 1, 10, 0, 0), 0, 1, 10, 0, 0, 3)
	comes(t, s, 4, asks(api.TxSubmit, 0, 1, 10, 0, 0), 0, 1, 10, 0, 0, 8)
}

// P21.2: TxEnd has as Used the ticks since the job's Start, no less than none, and no more than its Wall.
func TestTxEnd(t *testing.T) {
	for now, used := range map[int]int{0: 0, 4: 0, 5: 0, 6: 1, 9: 4, 14: 9, 15: 10, 16: 10, 99: 10, last: 10} {
		comes(t, rich(), now, asks(api.TxEnd, 3), 3, used)
	}
	for _, id := range []int{1, 2, 4} {
		refused(t, rich(), 9, asks(api.TxEnd, id), api.ErrState)
	}
	for _, id := range []int{0, 5, -1, 13, math.MaxInt, math.MinInt} {
		refused(t, rich(), 9, asks(api.TxEnd, id), api.ErrNone)
	}
	for _, state := range near(1, 3, 4) {
		s := richWith(func(s *api.State) { s.Jobs[2].State = state })
		if state == api.Running {
			comes(t, s, 9, asks(api.TxEnd, 3), 3, 4)
			continue
		}
		refused(t, s, 9, asks(api.TxEnd, 3), api.ErrState)
	}
}

// P21.2: Starts and Walls at the ends of the chapter's brackets.
func TestTxEndEnds(t *testing.T) {
	for _, now := range []int{0, 1, 1 << 20, 1<<20 + 1, last - 1, last} {
		for _, start := range []int{0, 1, last, 1<<48 - 1, 1 << 48} {
			for _, wall := range []int{0, 1, 1<<20 - 1, 1 << 20} {
				s := richWith(func(s *api.State) { s.Jobs[2].Start, s.Jobs[2].Wall = start, wall })
				sameTxOf(t, four(1), s, now, asks(api.TxEnd, 3))
			}
		}
	}
	s := richWith(func(s *api.State) { s.Jobs[2].Start, s.Jobs[2].Wall = 0, 1<<20 })
	comes(t, s, last, asks(api.TxEnd, 3), 3, 1<<20)
	comes(t, s, 1<<20-1, asks(api.TxEnd, 3), 3, 1<<20-1)
}

// runs: a state in which jobs of one node run, each with its start, its wall and what it has drawn on the one allocation; that is good until 30, and so much of it is available.
func runs(avail int, jobs ...[3]int) api.State {
	s := api.State{Next: 99, Funds: []api.Fund{{Name: "a", Parent: -1}}, Allocs: []api.Alloc{{Until: 30, Avail: avail}}}
	for k, x := range jobs {
		s.Jobs = append(s.Jobs, api.Job{ID: k + 1, Nodes: 1, Wall: x[1], Price: 1, State: api.Running, Start: x[0], Mask: 1 << k, Draws: []api.Draw{{Amount: x[2]}}})
		s.Allocs[0].Liened += x[2]
	}
	s.World = -avail - s.Allocs[0].Liened
	return s
}

// P21.3: jobs end at their ends, with their Walls as Used; the least end first, of one end the least ID.
func TestDueEnds(t *testing.T) {
	s := runs(0, [3]int{5, 10, 10}, [3]int{6, 9, 9}, [3]int{0, 8, 8}, [3]int{0, 29, 29})
	for now, want := range map[int][]api.Tx{
		7:  nil,
		8:  {endAt(8, 3, 8)},
		14: {endAt(14, 3, 8)},
		15: {endAt(15, 3, 8), endAt(15, 1, 10), endAt(15, 2, 9)},
		29: {endAt(29, 3, 8), endAt(29, 1, 10), endAt(29, 2, 9), endAt(29, 4, 29)},
	} {
		dueIs(t, s, now, want)
		dueIs(t, s, now, dueBy(s, now))
	}
	slices.Reverse(s.Jobs)
	dueIs(t, s, 15, []api.Tx{endAt(15, 3, 8), endAt(15, 1, 10), endAt(15, 2, 9)})
	for _, state := range []int{0, 1, 2, 4, 5} {
		for k := range s.Jobs {
			s.Jobs[k].State = state
		}
		dueIs(t, s, 99, nil)
	}
	dueIs(t, api.State{}, 99, nil)
}

// P21.3: behind them TxExpire, if there is anything to expire.
func TestDueExpires(t *testing.T) {
	for now, want := range map[int][]api.Tx{0: nil, 29: nil, 30: {expireAt(30)}, 31: {expireAt(31)}, last: {expireAt(last)}} {
		dueIs(t, runs(5), now, want)
		dueIs(t, runs(0), now, nil)
	}
	s := runs(5, [3]int{5, 10, 10})
	dueIs(t, s, 14, nil)
	dueIs(t, s, 15, []api.Tx{endAt(15, 1, 10)})
	dueIs(t, s, 30, []api.Tx{endAt(30, 1, 10), expireAt(30)})
	dueIs(t, rich(), 20, []api.Tx{endAt(20, 3, 10), expireAt(20)})
	dueIs(t, rich(), 19, []api.Tx{endAt(19, 3, 10)})
}

// P21.3: also what only the ends leave is expired.
func TestDueExpiresWhatIsFreeBehind(t *testing.T) {
	dueIs(t, runs(0, [3]int{5, 10, 10}), 30, []api.Tx{endAt(30, 1, 10)})
	dueIs(t, runs(0, [3]int{5, 10, 11}), 30, []api.Tx{endAt(30, 1, 10), expireAt(30)})
	dueIs(t, runs(0, [3]int{5, 10, 10}, [3]int{5, 9, 10}), 30, []api.Tx{endAt(30, 2, 9), endAt(30, 1, 10), expireAt(30)})
	dueIs(t, runs(0, [3]int{5, 25, 26}), 29, nil)
	dueIs(t, runs(0, [3]int{5, 25, 26}), 30, []api.Tx{endAt(30, 1, 25), expireAt(30)})
	// It runs on: what it has drawn is not available.
	dueIs(t, runs(0, [3]int{5, 26, 27}), 30, nil)
}

// P21.3: an end that may not be done is due all the same, and what comes behind it is tried as if it were not.
func TestDueMayNotBeDone(t *testing.T) {
	// It has drawn less than it costs.
	dueIs(t, runs(0, [3]int{5, 10, 9}), 30, []api.Tx{endAt(30, 1, 10)})
	dueIs(t, runs(0, [3]int{5, 10, 9}, [3]int{5, 11, 12}), 30, []api.Tx{endAt(30, 1, 10), endAt(30, 2, 11), expireAt(30)})
	dueIs(t, runs(0, [3]int{5, 10, 12}, [3]int{5, 11, 9}), 30, []api.Tx{endAt(30, 1, 10), endAt(30, 2, 11), expireAt(30)})
	// What both have drawn is liened only once: the first one that ends has it.
	s := runs(0, [3]int{5, 10, 14}, [3]int{5, 11, 12})
	s.Allocs[0].Liened, s.World = 14, -14
	dueIs(t, s, 30, []api.Tx{endAt(30, 1, 10), endAt(30, 2, 11), expireAt(30)})
	s.Jobs[0].Draws[0].Amount, s.Jobs[1].Draws[0].Amount = 10, 12
	s.Allocs[0].Liened, s.World = 12, -12
	dueIs(t, s, 30, []api.Tx{endAt(30, 1, 10), endAt(30, 2, 11)})
	s.Jobs[1].Wall = 4
	dueIs(t, s, 30, []api.Tx{endAt(30, 2, 4), endAt(30, 1, 10), expireAt(30)})
}

// P21.3: whether TxExpire may be done is asked behind those ends: a limit that does not hold now may hold then.
func TestDueAndLimits(t *testing.T) {
	s := runs(5, [3]int{5, 10, 30})
	s.Funds[0].Limit = 29
	dueIs(t, s, 14, nil)
	dueIs(t, s, 30, []api.Tx{endAt(30, 1, 10), expireAt(30)})
	s.Funds[0].Limit = 10
	dueIs(t, s, 30, []api.Tx{endAt(30, 1, 10), expireAt(30)})
	s.Funds[0].Limit = 9
	dueIs(t, s, 30, []api.Tx{endAt(30, 1, 10)})
	// The second end alone brings it below the limit, so that the first one may not be done, and what it had stays.
	s = runs(0, [3]int{5, 10, 40}, [3]int{5, 11, 40})
	s.Funds[0].Limit = 51
	dueIs(t, s, 30, []api.Tx{endAt(30, 1, 10), endAt(30, 2, 11), expireAt(30)})
	s.Funds[0].Limit = 50
	dueIs(t, s, 30, []api.Tx{endAt(30, 1, 10), endAt(30, 2, 11), expireAt(30)})
	s.Funds[0].Limit = 49
	dueIs(t, s, 30, []api.Tx{endAt(30, 1, 10), endAt(30, 2, 11)})
	// An expiry that the world may not have back may not be done.
	s = runs(5)
	s.World = -4
	dueIs(t, s, 30, nil)
	s.World = math.MinInt
	dueIs(t, s, 30, nil)
	s.World = -most
	dueIs(t, s, 30, []api.Tx{expireAt(30)})
}

// P21.3: all that there may be is due at once, at the ends of the chapter's brackets.
func TestDueOfMany(t *testing.T) {
	var jobs [][3]int
	for k := range 16 {
		jobs = append(jobs, [3]int{16 - k, 10, 11})
	}
	s := runs(0, jobs...)
	list := rule.Due(s, last)
	if len(list) != 17 || list[0].Args[0] != 16 || list[15].Args[0] != 1 || list[16].Kind != api.TxExpire {
		t.Error(list)
	}
	dueIs(t, s, last, dueBy(s, last))
	s.Seq = most
	dueIs(t, s, last, dueBy(s, last))
	s.Jobs[3].Start, s.Jobs[4].Start, s.Jobs[4].Wall = 1<<48, last-1<<20, 1<<20
	if list = rule.Due(s, last); len(list) != 16 {
		t.Error(list)
	}
	dueIs(t, s, last, dueBy(s, last))
	dueIs(t, s, last-1, dueBy(s, last-1))
}

// P21.4: Lien answers what the start of a job would come to, but for the nodes that others have.
func TestLien(t *testing.T) {
	for id, e := range map[int]api.Errno{1: api.OK, 2: api.ErrState, 3: api.ErrState, 4: api.ErrState, 5: api.ErrNone, 0: api.ErrNone, -1: api.ErrNone, math.MinInt: api.ErrNone, math.MaxInt: api.ErrNone} {
		lienIs(t, rich(), 9, id, e)
	}
	for _, mask := range []int{0, 1, 7, 15, 1<<32 - 1, -1, math.MinInt, math.MaxInt} {
		for k := range 4 {
			lienIs(t, richWith(func(s *api.State) { s.Jobs[k].Mask = mask }), 9, 1, api.OK)
		}
	}
	s := rich()
	for k := range s.Jobs {
		if k > 0 {
			s.Jobs[k].State, s.Jobs[k].Mask = api.Running, 1<<32-1
		}
	}
	lienIs(t, s, 9, 1, api.OK)
}

// P21.4: each thing for which a lien is refused.
func TestLienErrors(t *testing.T) {
	with := func(change func(j *api.Job)) api.State {
		return richWith(func(s *api.State) { change(&s.Jobs[0]) })
	}
	for nodes := range 33 {
		s := with(func(j *api.Job) { j.Nodes = nodes })
		lienIs(t, s, 9, 1, lienBy(s, 9, 1))
		if e := rule.Lien(s, 9, 1); (e == api.OK) != (nodes <= 12) || nodes > 12 && e != api.ErrFunds {
			t.Error(nodes, e)
		}
	}
	// 240 are open up to 20, then 40, then nothing; fund 2 has 7 more, from 3 on.
	for _, c := range []struct {
		now, fund, price int
		e                api.Errno
	}{
		{19, 1, 8, api.OK}, {19, 1, 9, api.ErrFunds}, {20, 1, 1, api.OK}, {20, 1, 2, api.ErrFunds}, {50, 1, 1, api.ErrFunds}, {50, 1, 0, api.OK},
		{19, 0, 6, api.OK}, {19, 0, 7, api.ErrFunds}, {0, 2, 8, api.OK}, {20, 2, 1, api.OK}, {20, 2, 2, api.ErrFunds}, {last, 1, 0, api.OK}, {last, 1, 1, api.ErrFunds}, {0, 1, 8, api.OK},
		{9, 3, 1, api.ErrNone}, {9, -1, 1, api.ErrNone}, {9, 1, -1, api.ErrArg}, {9, 1, 1 << 57, api.ErrOver},
	} {
		s := with(func(j *api.Job) { j.Fund, j.Price = c.fund, c.price })
		lienIs(t, s, c.now, 1, c.e)
		lienIs(t, s, c.now, 1, lienBy(s, c.now, 1))
	}
	s := rich()
	s.Funds[0].Limit = 136
	lienIs(t, s, 9, 1, api.OK)
	s.Funds[0].Limit = 135
	lienIs(t, s, 9, 1, api.ErrLimit)
	s = rich()
	s.Allocs[0].Liened = most
	lienIs(t, s, 9, 1, api.ErrOver)
}

// P21.4: as many nodes as it wants are as many as there may be, whatever the config has.
func TestLienWithoutPrice(t *testing.T) {
	for nodes := range 33 {
		s := richWith(func(s *api.State) { s.Jobs[0].Nodes, s.Jobs[0].Price = nodes, 0 })
		lienIs(t, s, 9, 1, api.OK)
	}
}

// three: a queue in which the job 2 is first, then 3, then 4; the job 1 has three of four nodes up to 15.
func three() api.State {
	return api.State{Next: 5, Jobs: []api.Job{
		{ID: 4, Nodes: 1, Wall: 9, State: api.Queued},
		{ID: 1, Nodes: 3, Wall: 10, Prio: 9, State: api.Running, Start: 5, Mask: 7},
		{ID: 3, Nodes: 1, Wall: 12, Prio: 1, State: api.Queued},
		{ID: 2, Nodes: 2, Wall: 9, Prio: 5, State: api.Queued},
	}}
}

func nextOf(t *testing.T, mode int, s api.State, now int, refused []int, want int) {
	t.Helper()
	nextIs(t, four(mode), s, now, refused, want, want != 0)
	id, ok := nextBy(four(mode), s, now, refused)
	nextIs(t, four(mode), s, now, refused, id, ok)
}

// P21.4: who may start, by either mode; who is refused is so by ID.
func TestNext(t *testing.T) {
	for _, mode := range []int{api.Easy, api.Strict} {
		nextOf(t, mode, three(), 6, nil, 3)
		nextOf(t, mode, three(), 6, []int{3}, 4)
		nextOf(t, mode, three(), 6, []int{4, 3}, 0)
		nextOf(t, mode, three(), 6, []int{2}, 3)
		nextOf(t, mode, three(), 6, []int{3, 2}, 4)
		nextOf(t, mode, three(), 6, []int{0, 1, 5, -3, math.MinInt, math.MaxInt}, 3)
		nextOf(t, mode, three(), 6, []int{2, 3, 4, 3}, 0)
		nextOf(t, mode, three(), 15, nil, 2)
		nextOf(t, mode, three(), 15, []int{2}, 3)
		nextOf(t, mode, api.State{}, 6, nil, 0)
		nextOf(t, mode, richWith(func(s *api.State) { s.Jobs[0].State = api.Done }), 16, nil, 0)
		nextOf(t, mode, rich(), 15, nil, 1)
		nextOf(t, mode, rich(), 14, nil, 0)
	}
}

// P21.4: where the modes differ: the job 4 holds up the second one in the queue, but not the first.
func TestNextModes(t *testing.T) {
	s := api.State{Jobs: []api.Job{
		{ID: 1, Nodes: 3, Wall: 10, State: api.Running, Start: 0, Mask: 7},
		{ID: 2, Nodes: 2, Wall: 10, State: api.Queued},
		{ID: 3, Nodes: 2, Wall: 10, State: api.Queued},
		{ID: 4, Nodes: 1, Wall: 11, State: api.Queued},
	}}
	nextOf(t, api.Easy, s, 0, nil, 4)
	nextOf(t, api.Strict, s, 0, nil, 0)
	s.Jobs[3].Wall = 10
	nextOf(t, api.Easy, s, 0, nil, 4)
	nextOf(t, api.Strict, s, 0, nil, 4)
	nextOf(t, api.Strict, s, 1, nil, 0)
	nextOf(t, api.Easy, s, 1, nil, 4)
	// Refused, the second one is held up by nobody any more.
	nextOf(t, api.Strict, s, 1, []int{3}, 4)
	// Without extra nodes both wait.
	s.Jobs[1].Nodes = 4
	nextOf(t, api.Easy, s, 1, nil, 0)
	nextOf(t, api.Easy, s, 0, nil, 4)
}

// P21.4: how many nodes there are is the config's: who wants more does not count.
func TestNextNodes(t *testing.T) {
	for _, mode := range []int{api.Easy, api.Strict} {
		for nodes := 1; nodes <= 32; nodes++ {
			c := api.Config{Nodes: nodes, Mode: mode, Slot: 4, Log: 60}
			s := api.State{Jobs: []api.Job{{ID: 7, Nodes: 9, Wall: 5, Prio: 1, State: api.Queued}, {ID: 8, Nodes: 3, Wall: 5, State: api.Queued}}}
			want := 7
			if nodes < 9 {
				want = 8
			}
			if nodes < 3 {
				want = 0
			}
			nextIs(t, c, s, 0, nil, want, want != 0)
			nextIs(t, c, s, 0, []int{7}, min(8, want*8), want != 0)
		}
	}
}

// P21.4: an ID of 0 is one, too.
func TestNextIDs(t *testing.T) {
	for _, id := range []int{0, -1, 1, math.MaxInt, math.MinInt} {
		s := api.State{Jobs: []api.Job{{ID: id, Nodes: 1, Wall: 1, State: api.Queued}}}
		for _, mode := range []int{api.Easy, api.Strict} {
			nextIs(t, four(mode), s, 0, nil, id, true)
			nextIs(t, four(mode), s, 0, []int{5, id}, 0, false)
			nextIs(t, four(mode), s, 0, []int{5, 6, 7}, id, true)
		}
	}
}

// P21.4: numbers at the ends of the chapter's brackets.
func TestNextEnds(t *testing.T) {
	for _, now := range []int{0, 1, last - 1, last} {
		for _, start := range []int{0, last - 1, last, 1 << 48} {
			for _, wall := range []int{0, 1, 1<<20 - 1, 1 << 20} {
				s := three()
				s.Jobs[1].Start, s.Jobs[1].Wall, s.Jobs[0].Wall, s.Jobs[2].Wall = start, wall, wall, wall
				for _, nodes := range []int{0, 1, 2, 4, 32} {
					s.Jobs[3].Nodes = nodes
					for _, mode := range []int{api.Easy, api.Strict} {
						id, ok := nextBy(four(mode), s, now, nil)
						nextIs(t, four(mode), s, now, nil, id, ok)
					}
				}
			}
		}
	}
}

// startOf: of that state, on so many nodes, a job starts on these; 0: on none, as there are not as many.
func startOf(t *testing.T, nodes int, s api.State, id, mask int) {
	t.Helper()
	c := api.Config{Nodes: nodes, Mode: api.Easy, Slot: 4, Log: 60}
	want, e := startAt(9, id, mask), api.OK
	if mask == 0 {
		want, e = api.Tx{}, api.ErrNodes
	}
	startIs(t, c, s, 9, id, want, e)
	c.Mode = api.Strict
	startIs(t, c, s, 9, id, want, e)
	want, e = startBy(c, s, 9, id)
	startIs(t, c, s, 9, id, want, e)
}

// P21.4: a job starts on the lowest nodes that nobody who runs has.
func TestStart(t *testing.T) {
	startOf(t, 4, rich(), 2, 2)
	startOf(t, 4, rich(), 1, 0)
	startOf(t, 5, rich(), 1, 0)
	startOf(t, 6, rich(), 1, 2+16+32)
	startOf(t, 32, rich(), 1, 2+16+32)
	// Whatever its state is.
	startOf(t, 32, rich(), 3, 2+16+32)
	startOf(t, 32, rich(), 4, 2+16)
	for _, state := range []int{0, 1, 2, 4, 5} {
		s := richWith(func(s *api.State) { s.Jobs[2].State = state })
		startOf(t, 4, s, 1, 7)
		startOf(t, 4, s, 2, 1)
		startOf(t, 2, s, 1, 0)
	}
	for _, id := range []int{0, 5, -1, 13, math.MaxInt, math.MinInt} {
		startIs(t, four(1), rich(), 9, id, api.Tx{}, api.ErrNone)
	}
	startIs(t, four(1), api.State{}, 9, 0, api.Tx{}, api.ErrNone)
}

// P21.4: each number of nodes that there are, and that is wanted; Masks may have more than there are.
func TestStartNodes(t *testing.T) {
	for nodes := 1; nodes <= 32; nodes++ {
		for wants := 1; wants <= 32; wants++ {
			s := richWith(func(s *api.State) { s.Jobs[0].Nodes, s.Jobs[2].State = wants, api.Done })
			want := 1<<wants - 1
			if wants > nodes {
				want = 0
			}
			startOf(t, nodes, s, 1, want)
		}
	}
	for _, mask := range []int{-1, math.MinInt, math.MaxInt, 1<<32 - 1, 1 << 32, 1 << 40} {
		s := richWith(func(s *api.State) { s.Jobs[2].Mask = mask })
		want, e := startBy(four(1), s, 9, 2)
		startIs(t, four(1), s, 9, 2, want, e)
	}
	s := richWith(func(s *api.State) { s.Jobs[0].Nodes, s.Jobs[2].Mask = 0, 15 })
	startIs(t, four(1), s, 9, 1, startAt(9, 1, 0), api.OK)
}

// P21.4: Time is now.
func TestStartTime(t *testing.T) {
	for _, now := range []int{0, 1, 9, last - 1, last} {
		startIs(t, four(1), rich(), now, 2, startAt(now, 2, 2), api.OK)
	}
}

// P21.4: money is nothing to Start, nor nodes to Lien: what both let may be done.
func TestStartAndLien(t *testing.T) {
	s := richWith(func(s *api.State) { s.Allocs = nil })
	startIs(t, four(1), s, 9, 2, startAt(9, 2, 2), api.OK)
	s = rich()
	if x, e := rule.Start(four(1), s, 9, 1); e != api.ErrNodes || rule.Lien(s, 9, 1) != api.OK {
		t.Error(x, e)
	}
}

// clock drives a state as a scheduler does: what is due at a tick is done, then whoever may start does, as long as there is one.
type clock struct {
	*testing.T
	c   api.Config
	s   api.State
	now int
}

// do: a transaction that may be done.
func (k *clock) do(x api.Tx) {
	k.Helper()
	after, e := done(k.s, x)
	if e != api.OK {
		k.Errorf("%+v may not be done to %+v: %d", x, k.s, e)
	}
	k.s = after
}

func (k *clock) tick(now int) {
	k.Helper()
	k.now = now
	for _, x := range rule.Due(k.s, now) {
		k.do(x)
	}
	if list := rule.Due(k.s, now); len(list) > 0 {
		k.Errorf("behind what was due this is: %+v", list)
	}
}

// start: whoever may; how many do, and how many have no money.
func (k *clock) start() (started, poor int) {
	k.Helper()
	var refused []int
	for !k.Failed() {
		id, ok := rule.Next(k.c, k.s, k.now, refused)
		if !ok {
			break
		}
		if e := rule.Lien(k.s, k.now, id); e != api.OK {
			refused = append(refused, id)
			poor++
			continue
		}
		x, e := rule.Start(k.c, k.s, k.now, id)
		if e != api.OK {
			k.Errorf("%d may not start: %+v %d", id, k.s, e)
			break
		}
		k.do(x)
		started++
	}
	return started, poor
}

// P21.2 to P21.4: what these say may be done may be done: all that is due, and whoever is next, has a lien and nodes.
func TestClock(t *testing.T) {
	r := rand.New(rand.NewSource(23))
	started, poor, commands := 0, 0, 0
	for turn := range 60 {
		k := &clock{T: t, c: api.Config{Nodes: 1 + r.Intn(8), Mode: 1 + turn%2, Slot: 4, Log: 60}, s: book.New()}
		k.do(api.Tx{Kind: api.TxFund, Name: "root", Args: []int{-1, 500}})
		k.do(api.Tx{Kind: api.TxFund, Name: "lab", Args: []int{0, 0}})
		k.do(api.Tx{Kind: api.TxRate, Args: []int{0, 0, 2}})
		for range 100 {
			k.tick(k.now + r.Intn(4))
			x := asks([]int{api.TxAlloc, api.TxDeposit, api.TxSubmit, api.TxSubmit, api.TxSubmit, api.TxHold, api.TxFree, api.TxCancel, api.TxRequeue, api.TxEnd, api.TxRefund}[r.Intn(11)])
			for range argsBy()[x.Kind][1] {
				x.Args = append(x.Args, r.Intn(12))
			}
			switch x.Kind {
			case api.TxAlloc:
				x.Args = []int{r.Intn(2), k.now, k.now + 1 + r.Intn(40), 1 + r.Intn(200)}
			case api.TxSubmit:
				x.Args = []int{r.Intn(2), 1 + r.Intn(k.c.Nodes), 1 + r.Intn(9), 0, r.Intn(3)}
			}
			want, e := txBy(k.c, k.s, k.now, x)
			txIs(t, k.c, k.s, k.now, x, want, e)
			if after, e2 := done(k.s, want); e == api.OK && e2 == api.OK {
				k.s = after
				commands++
			}
			more, without := k.start()
			started, poor = started+more, poor+without
			k.isRight()
			if t.Failed() {
				return
			}
		}
	}
	if started < 300 || poor < 300 || commands < 1000 {
		t.Error("too few of a kind", started, poor, commands)
	}
}

// isRight: have all that run nodes of their own, of those that there are, and none of them for longer than it may?
func (k *clock) isRight() {
	k.Helper()
	taken := 0
	for _, j := range k.s.Jobs {
		if !job.Good(j) || taken&j.Mask != 0 || j.Mask>>k.c.Nodes != 0 || j.State == api.Running && j.Start+j.Wall <= k.now {
			k.Errorf("a job may not be: %+v", k.s)
		}
		taken |= j.Mask
	}
}

// R4, R5: what is answered is new memory: to spoil it changes neither what was handed in nor another answer, and the other way round.
func TestAnswersAreNew(t *testing.T) {
	calls := []func(s api.State, x api.Cmd) []api.Tx{
		func(s api.State, x api.Cmd) []api.Tx { y, _ := rule.Tx(four(1), s, 9, x); return []api.Tx{y} },
		func(s api.State, x api.Cmd) []api.Tx { return rule.Due(s, 30) },
		func(s api.State, x api.Cmd) []api.Tx { y, _ := rule.Start(four(1), s, 9, 2); return []api.Tx{y} },
	}
	for _, call := range calls {
		for _, x := range []api.Cmd{asks(api.TxSubmit, 0, 1, 10, 0, 0), asks(api.TxEnd, 3), asks(api.TxDeposit, 0, 5), asks(api.TxAlloc, 0, 0, 9, 5)} {
			given := roomyState(rich())
			was := wholeState(given)
			asked := x
			asked.Args = roomy(x.Args, 77, 78)
			want := call(rich(), x)
			one, other := call(given, asked), call(given, asked)
			spoil(one)
			if !slices.EqualFunc(other, want, sameTx) || !reflect.DeepEqual(was, wholeState(given)) || !slices.Equal(asked.Args[:len(x.Args)+2], slices.Concat(x.Args, []int{77, 78})) {
				t.Error(other, given, asked)
			}
			for k := range asked.Args[:cap(asked.Args)] {
				asked.Args[:cap(asked.Args)][k] = -9
			}
			for k := range given.Jobs {
				given.Jobs[k] = api.Job{ID: -9}
			}
			if !slices.EqualFunc(other, want, sameTx) {
				t.Error(other, want)
			}
			if again := call(rich(), x); !slices.EqualFunc(again, want, sameTx) {
				t.Error(again, want)
			}
		}
	}
}

// spoil: all that there is of transactions, spare room too, becomes something else; no two of them share any.
func spoil(list []api.Tx) {
	for _, x := range list[:cap(list)] {
		for k := range x.Args[:cap(x.Args)] {
			x.Args[:cap(x.Args)][k] = -9
		}
	}
	for k := range list[:cap(list)] {
		list[:cap(list)][k] = api.Tx{Kind: -9}
	}
}

// R4: no two lists of one answer share any memory.
func TestDueSharesNothing(t *testing.T) {
	s := runs(5, [3]int{5, 10, 10}, [3]int{5, 10, 10}, [3]int{5, 10, 10})
	for k := range 3 {
		list := rule.Due(s, 30)
		spoil(list[k : k+1 : k+1])
		for i, x := range list {
			if i != k && !sameTx(x, rule.Due(s, 30)[i]) {
				t.Error(k, list)
			}
		}
		grown := append(list[k].Args, -9)
		if !slices.EqualFunc(list[k+1:], rule.Due(s, 30)[k+1:], sameTx) {
			t.Error(grown, list)
		}
	}
}

// R1: numbers at their ends, in a state, in a config and in what is asked for, panic nowhere, and all that is not bracketed is as the words say.
func TestAnyArgument(t *testing.T) {
	ends := []int{math.MinInt, math.MinInt + 1, -most - 1, -1, 0, 1, 3, 15, 16, 32, last, most, most + 1, math.MaxInt}
	for _, n := range ends {
		for _, m := range ends {
			s := richWith(func(s *api.State) {
				s.World = -n
				for k := range s.Funds {
					s.Funds[k].Parent, s.Funds[k].Limit = n, m
				}
				s.Allocs[0] = api.Alloc{Fund: m, From: n, Until: m, Avail: n, Liened: m, Spent: n}
				s.Rates[0] = api.Rate{QoS: n, From: m, Price: n}
				for k := range s.Jobs {
					j := &s.Jobs[k]
					j.Fund, j.QoS, j.Prio, j.Price, j.Mask, j.Used = n, m, n, m, m, n
					for i := range j.Draws {
						j.Draws[i].Amount = m
					}
				}
			})
			sameRest(t, four(1), s, 20, []int{n, m})
			for kind, many := range argsBy() {
				x := asks(kind, slices.Repeat([]int{n, m}, 3)[:many[1]]...)
				x.Key, x.Name = "a", "0123456789abcdefg"
				sameTxOf(t, api.Config{Nodes: m}, s, 9, x)
			}
		}
	}
}

// R1: beyond the chapter's brackets, of which nothing is promised, the calls still end.
func TestBeyondBrackets(t *testing.T) {
	for _, n := range []int{math.MinInt, -7, 0, 17, math.MaxInt} {
		s := richWith(func(s *api.State) {
			s.Seq, s.Next = n, n
			s.Funds = slices.Repeat(s.Funds, 9)
			s.Allocs = slices.Repeat(s.Allocs, 9)
			s.Rates = slices.Repeat(s.Rates, 40)
			s.Jobs = slices.Repeat(s.Jobs, 9)
			s.Keys = slices.Repeat(s.Keys, 40)
			for k := range s.Jobs {
				s.Jobs[k].Start, s.Jobs[k].Wall, s.Jobs[k].Nodes = n, -n, n
				s.Jobs[k].Draws = slices.Repeat([]api.Draw{{Alloc: n, Amount: 1}, {Alloc: 20, Amount: n}}, 20)
			}
		})
		for _, c := range []api.Config{{}, four(1), four(2), {Nodes: n, Mode: n}, {Nodes: n, Mode: api.Easy}, {Nodes: n, Mode: api.Strict}} {
			for _, now := range []int{n, -n, 9, last + 1, math.MinInt, math.MaxInt} {
				for _, id := range []int{1, 2, 3, 4, 5, n} {
					rule.Tx(c, s, now, asks(api.TxEnd, id))
					rule.Tx(c, s, now, asks(api.TxSubmit, n, n, n, n, n))
					rule.Lien(s, now, id)
					rule.Start(c, s, now, id)
					rule.Next(c, s, now, []int{id, n})
				}
				rule.Due(s, now)
			}
		}
	}
}

// R5: whatever was asked in between, the same answer comes again.
func TestNothingIsKept(t *testing.T) {
	for range 3 {
		dueIs(t, rich(), 20, []api.Tx{endAt(20, 3, 10), expireAt(20)})
		lienIs(t, rich(), 9, 1, api.OK)
		startIs(t, four(1), rich(), 9, 2, startAt(9, 2, 2), api.OK)
		nextIs(t, four(1), rich(), 15, nil, 1, true)
		nextIs(t, four(1), rich(), 15, []int{1}, 0, false)
		comes(t, rich(), 9, asks(api.TxEnd, 3), 3, 4)
		refused(t, rich(), 9, asks(api.TxEnd, 1), api.ErrState)
	}
}
