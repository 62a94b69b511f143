package book_test

import (
	"math"
	"math/rand"
	"reflect"
	"slices"
	"testing"

	"prebend/api"
	"prebend/book"
	"prebend/draw"
	"prebend/job"
	"prebend/ledger"
	"prebend/money"
	"prebend/rate"
	"prebend/tree"
)

// The words of the chapter, one by one; of the chapters below it their calls.

// argsBy: how many Args a transaction of each kind has.
func argsBy() []int { return []int{1: 2, 4, 2, 2, 3, 3, 6, 1, 1, 1, 1, 2, 2, 2, 0} }

// statesBy: in which states a job must be for those kinds that are of one.
func statesBy() [][]int {
	return [][]int{8: {1}, 9: {2}, 10: {1, 2}, 11: {3}, 12: {3}, 13: {4}, 14: {1}}
}

// deep: the same state in memory of its own, without empty lists.
func deep(s api.State) api.State {
	s.Funds = slices.Concat(nil, s.Funds)
	s.Allocs = slices.Concat(nil, s.Allocs)
	s.Rates = slices.Concat(nil, s.Rates)
	s.Jobs = slices.Concat(nil, s.Jobs)
	s.Keys = slices.Concat(nil, s.Keys)
	for k := range s.Jobs {
		s.Jobs[k].Draws = slices.Concat(nil, s.Jobs[k].Draws)
	}
	return s
}

// deepTx: the same transaction in memory of its own, without empty lists.
func deepTx(x api.Tx) api.Tx {
	x.Args = slices.Concat(nil, x.Args)
	x.Legs = slices.Concat(nil, x.Legs)
	return x
}

// lookedAt: what is wrong ahead of the kind's own errors.
func lookedAt(s api.State, x api.Tx) api.Errno {
	if x.Time < 0 || x.Time > 1<<40 || x.Kind < 1 || x.Kind > 15 {
		return api.ErrArg
	}
	if len(x.Args) != argsBy()[x.Kind] || len(x.Key) > 16 || len(x.Name) > 16 {
		return api.ErrArg
	}
	if x.Key != "" && x.Kind > 7 && x.Kind != 13 || x.Name != "" && x.Kind > 1 {
		return api.ErrArg
	}
	for _, key := range s.Keys {
		if key == x.Key && x.Key != "" {
			return api.ErrTwice
		}
	}
	return api.OK
}

// words: the state behind a transaction, that with its number and legs, and the error.
func words(s api.State, x api.Tx) (api.State, api.Tx, api.Errno) {
	after, full := deep(s), deepTx(x)
	e := lookedAt(s, x)
	var legs []api.Leg
	switch {
	case e != api.OK:
	case x.Kind <= 6 || x.Kind == 15:
		legs, e = ofBank(&after, x)
	case x.Kind == 7:
		e = ofSubmit(&after, x)
	default:
		legs, e = ofJob(&after, x)
	}
	if e == api.OK && len(legs) > 0 {
		after.World, after.Allocs, e = ledger.Post(after.World, after.Allocs, legs)
	}
	if e == api.OK && tree.Over(after.Funds, after.Allocs) != -1 {
		e = api.ErrLimit
	}
	if e != api.OK {
		return api.State{}, api.Tx{}, e
	}
	if x.Key != "" {
		after.Keys = append(after.Keys, x.Key)
	}
	for len(after.Keys) > 8 {
		after.Keys = after.Keys[1:]
	}
	after.Seq = s.Seq + 1
	full.Seq, full.Legs = s.Seq+1, legs
	return deep(after), full, api.OK
}

func legsOf(list ...int) []api.Leg {
	var legs []api.Leg
	for two := range slices.Chunk(list, 2) {
		legs = append(legs, api.Leg{Acct: two[0], Amount: two[1]})
	}
	return legs
}

func ofBank(s *api.State, x api.Tx) ([]api.Leg, api.Errno) {
	a := x.Args
	noAlloc := func(n int) bool { return n < 0 || n >= len(s.Allocs) }
	switch x.Kind {
	case 1:
		if len(s.Funds) == 8 {
			return nil, api.ErrMany
		}
		s.Funds = append(s.Funds, api.Fund{Name: x.Name, Parent: a[0], Limit: a[1]})
		if !tree.Good(s.Funds) {
			return nil, api.ErrArg
		}
		return nil, api.OK
	case 2:
		n := len(s.Allocs)
		if a[0] < 0 || a[0] >= len(s.Funds) {
			return nil, api.ErrNone
		}
		if a[1] < 0 || a[2] <= a[1] || a[2] > 1<<40 || a[3] < 1 {
			return nil, api.ErrArg
		}
		if n == 16 {
			return nil, api.ErrMany
		}
		s.Allocs = append(s.Allocs, api.Alloc{Fund: a[0], From: a[1], Until: a[2]})
		return legsOf(0, -a[3], 1+3*n, a[3]), api.OK
	case 3, 4:
		if noAlloc(a[0]) {
			return nil, api.ErrNone
		}
		if a[1] < 1 {
			return nil, api.ErrArg
		}
		if x.Kind == 3 {
			return legsOf(0, -a[1], 1+3*a[0], a[1]), api.OK
		}
		return legsOf(1+3*a[0], -a[1], 0, a[1]), api.OK
	case 5:
		if noAlloc(a[0]) || noAlloc(a[1]) {
			return nil, api.ErrNone
		}
		if a[0] == a[1] || a[2] < 1 {
			return nil, api.ErrArg
		}
		return legsOf(1+3*a[0], -a[2], 1+3*a[1], a[2]), api.OK
	case 6:
		if len(s.Rates) == 16 {
			return nil, api.ErrMany
		}
		s.Rates = append(s.Rates, api.Rate{QoS: a[0], From: a[1], Price: a[2]})
		if !rate.Good(s.Rates) {
			return nil, api.ErrArg
		}
		return nil, api.OK
	}
	var list []int
	for n, one := range s.Allocs {
		if one.Until <= x.Time && one.Avail > 0 {
			list = append(list, 1+3*n, -one.Avail, 0, one.Avail)
		}
	}
	if list == nil {
		return nil, api.ErrNone
	}
	return legsOf(list...), api.OK
}

func ofSubmit(s *api.State, x api.Tx) api.Errno {
	a := x.Args
	j := api.Job{ID: s.Next, Fund: a[0], Nodes: a[1], Wall: a[2], QoS: a[3], Prio: a[4], Price: a[5], State: 1}
	if a[0] < 0 || a[0] >= len(s.Funds) {
		return api.ErrNone
	}
	if !job.Good(j) {
		return api.ErrArg
	}
	goes := -1
	for k := len(s.Jobs) - 1; k >= 0; k-- {
		if s.Jobs[k].State == 4 && (goes < 0 || s.Jobs[k].ID <= s.Jobs[goes].ID) {
			goes = k
		}
	}
	var jobs []api.Job
	for k, other := range s.Jobs {
		if len(s.Jobs) < 16 || k != goes {
			jobs = append(jobs, other)
		}
	}
	if len(jobs) == 16 {
		return api.ErrMany
	}
	s.Jobs = append(jobs, j)
	s.Next++
	return api.OK
}

func ofJob(s *api.State, x api.Tx) ([]api.Leg, api.Errno) {
	at := -1
	for k := len(s.Jobs) - 1; k >= 0; k-- {
		if s.Jobs[k].ID == x.Args[0] {
			at = k
		}
	}
	if at < 0 {
		return nil, api.ErrNone
	}
	j := s.Jobs[at]
	if !slices.Contains(statesBy()[x.Kind], j.State) {
		return nil, api.ErrState
	}
	var list []int
	switch x.Kind {
	case 8:
		j.State = 2
	case 9:
		j.State = 1
	case 10:
		s.Jobs = slices.Concat(s.Jobs[:at], s.Jobs[at+1:])
		return nil, api.OK
	case 11:
		for _, d := range j.Draws {
			list = append(list, 2+3*d.Alloc, -d.Amount, 1+3*d.Alloc, d.Amount)
		}
		j.State, j.Start, j.Mask, j.Draws = 1, 0, 0, nil
	case 12:
		if x.Args[1] < 0 || x.Args[1] > j.Wall {
			return nil, api.ErrArg
		}
		price, e := money.Cost(j.Nodes, x.Args[1], j.Price)
		if e != api.OK {
			return nil, e
		}
		charges, e := draw.Charge(j.Draws, price)
		if e != api.OK {
			return nil, e
		}
		for k, d := range j.Draws {
			c := charges[k].Amount
			list = append(list, 2+3*d.Alloc, -d.Amount, 3+3*d.Alloc, c, 1+3*d.Alloc, d.Amount-c)
		}
		j.State, j.Used, j.Mask, j.Draws = 4, x.Args[1], 0, thoseLeft(charges, nil)
	case 13:
		if x.Args[1] < 1 {
			return nil, api.ErrArg
		}
		charges, e := draw.Charge(j.Draws, x.Args[1])
		if e != api.OK {
			return nil, e
		}
		for _, c := range charges {
			list = append(list, 3+3*c.Alloc, -c.Amount, 1+3*c.Alloc, c.Amount)
		}
		j.Draws = thoseLeft(j.Draws, charges)
	case 14:
		draws, e := ofStart(s, &j, x)
		if e != api.OK {
			return nil, e
		}
		for _, d := range draws {
			list = append(list, 1+3*d.Alloc, -d.Amount, 2+3*d.Alloc, d.Amount)
		}
	}
	s.Jobs[at] = j
	return slices.DeleteFunc(legsOf(list...), func(l api.Leg) bool { return l.Amount == 0 }), api.OK
}

// thoseLeft: draws, less others, as far as there is anything left of them.
func thoseLeft(draws, less []api.Draw) []api.Draw {
	var left []api.Draw
	for k, d := range draws {
		if less != nil {
			d.Amount -= less[k].Amount
		}
		if d.Amount != 0 {
			left = append(left, d)
		}
	}
	return left
}

func ofStart(s *api.State, j *api.Job, x api.Tx) ([]api.Draw, api.Errno) {
	mask, nodes := x.Args[1], 0
	if mask < 0 || mask > 1<<32-1 {
		return nil, api.ErrArg
	}
	for left := mask; left > 0; left /= 2 {
		nodes += left % 2
	}
	if nodes != j.Nodes {
		return nil, api.ErrArg
	}
	for _, other := range s.Jobs {
		if other.State == 3 && other.Mask&mask != 0 {
			return nil, api.ErrNodes
		}
	}
	price, e := money.Cost(j.Nodes, j.Wall, j.Price)
	if e != api.OK {
		return nil, e
	}
	draws, e := draw.Draws(s.Funds, s.Allocs, j.Fund, price, x.Time)
	if e != api.OK {
		return nil, e
	}
	j.State, j.Start, j.Mask, j.Draws = 3, x.Time, mask, draws
	return draws, api.OK
}

// roomy: the same list, with spare room, in which something lies.
func roomy[T any](list []T, rest ...T) []T {
	return append(slices.Clone(list), rest...)[:len(list)]
}

// roomyState: the same state, whose lists have spare room.
func roomyState(s api.State) api.State {
	s.Funds = roomy(s.Funds, api.Fund{Name: "room", Parent: 77}, api.Fund{Name: "more"})
	s.Allocs = roomy(s.Allocs, api.Alloc{Fund: 77, Avail: 77}, api.Alloc{Fund: 78})
	s.Rates = roomy(s.Rates, api.Rate{QoS: 77}, api.Rate{QoS: 78})
	s.Jobs = roomy(s.Jobs, api.Job{ID: 77}, api.Job{ID: 78})
	s.Keys = roomy(s.Keys, "room", "more")
	for k := range s.Jobs {
		s.Jobs[k].Draws = roomy(s.Jobs[k].Draws, api.Draw{Alloc: 77, Amount: 77}, api.Draw{Alloc: 78, Amount: 78})
	}
	return s
}

// wholeState: a copy of all that there is of a state, spare room too.
func wholeState(s api.State) api.State {
	s.Funds, s.Allocs, s.Rates = s.Funds[:cap(s.Funds)], s.Allocs[:cap(s.Allocs)], s.Rates[:cap(s.Rates)]
	s.Jobs, s.Keys = s.Jobs[:cap(s.Jobs)], s.Keys[:cap(s.Keys)]
	s = deep(s)
	for k, j := range s.Jobs {
		s.Jobs[k].Draws = slices.Clone(j.Draws[:cap(j.Draws)])
	}
	return s
}

func roomyTx(x api.Tx) api.Tx {
	x.Args = roomy(x.Args, 77, 78)
	x.Legs = roomy(x.Legs, api.Leg{Acct: 77, Amount: 77}, api.Leg{Acct: 78})
	return x
}

func wholeTx(x api.Tx) api.Tx {
	x.Args, x.Legs = x.Args[:cap(x.Args)], x.Legs[:cap(x.Legs)]
	return deepTx(x)
}

// fillIs, applyIs: the calls answer that, and leave what is handed in as it is, its spare room too (R4).
func fillIs(t *testing.T, s api.State, x, want api.Tx, wantE api.Errno) {
	t.Helper()
	given, asked := roomyState(s), roomyTx(x)
	was, wasTx := wholeState(given), wholeTx(asked)
	full, e := book.Fill(given, asked)
	if e != wantE || !reflect.DeepEqual(deepTx(full), deepTx(want)) {
		t.Errorf("Fill(%+v, %+v) is %+v, %d; it should be %+v, %d", s, x, full, e, want, wantE)
	}
	if !reflect.DeepEqual(was, wholeState(given)) || !reflect.DeepEqual(wasTx, wholeTx(asked)) {
		t.Errorf("Fill(%+v, %+v) changed what it was handed", s, x)
	}
}

func applyIs(t *testing.T, s api.State, x api.Tx, want api.State, wantE api.Errno) {
	t.Helper()
	given, asked := roomyState(s), roomyTx(x)
	was, wasTx := wholeState(given), wholeTx(asked)
	after, e := book.Apply(given, asked)
	if e != wantE || !reflect.DeepEqual(deep(after), deep(want)) {
		t.Errorf("Apply(%+v, %+v) is %+v, %d; it should be %+v, %d", s, x, after, e, want, wantE)
	}
	if !reflect.DeepEqual(was, wholeState(given)) || !reflect.DeepEqual(wasTx, wholeTx(asked)) {
		t.Errorf("Apply(%+v, %+v) changed what it was handed", s, x)
	}
}

// same: both calls answer what the words ask for; of a transaction that is done, the state behind it.
func same(t *testing.T, s api.State, x api.Tx) (api.State, api.Errno) {
	t.Helper()
	after, full, e := words(s, x)
	fillIs(t, s, x, full, e)
	if e != api.OK {
		applyIs(t, s, x, api.State{}, e)
		return s, e
	}
	applyIs(t, s, full, after, api.OK)
	if x.Seq != full.Seq || !slices.Equal(x.Legs, full.Legs) {
		applyIs(t, s, x, api.State{}, api.ErrForm)
	}
	return after, api.OK
}

// picker picks numbers: mostly small ones, some at their ends where it is wild.
type picker struct {
	*rand.Rand
	wild bool
}

func (p picker) up(n int) int {
	if p.wild && p.Intn(12) == 0 {
		ends := []int{-1, 0, 1, 1 << 20, 1 << 40, 1<<40 + 1, 1 << 59, 1 << 60, 1<<60 + 1, -1 << 60, math.MaxInt, math.MinInt}
		return ends[p.Intn(len(ends))]
	}
	return p.Intn(n)
}

// few: a number up to most, often most itself.
func (p picker) few(most, usual int) int {
	if p.Intn(5) == 0 {
		return most
	}
	return p.Intn(usual + 1)
}

func (p picker) draws(allocs int) []api.Draw {
	var list []api.Draw
	for range p.Intn(4) {
		list = append(list, api.Draw{Alloc: p.Intn(max(1, allocs)), Amount: p.up(12)})
	}
	if p.wild && p.Intn(4) == 0 {
		list = append(list, api.Draw{Alloc: p.Intn(16), Amount: p.up(5)})
	}
	return list
}

// job: one with a place in the queue, or one that runs, or did.
func (p picker) job(next, funds, allocs int) api.Job {
	j := api.Job{ID: 1 + p.Intn(max(1, next)), Fund: p.Intn(max(1, funds)), Nodes: p.Intn(4), Wall: max(0, p.up(6)) & (1<<50 - 1), QoS: p.Intn(8), Prio: p.Intn(5), Price: p.up(4), State: 1 + p.Intn(4)}
	if j.State == 3 || j.State == 4 || p.wild && p.Intn(5) == 0 {
		j.Start, j.Draws = p.Intn(20), p.draws(allocs)
	}
	if j.State == 3 {
		j.Mask = 1 << p.Intn(32)
	}
	if j.State == 4 {
		j.Used = p.Intn(6)
	}
	if p.wild && p.Intn(6) == 0 {
		j.State, j.Nodes, j.Used, j.Mask = p.up(6), p.up(34), p.up(9), p.up(99)
	}
	return j
}

// state: one as chapter 20's brackets have it.
func (p picker) state() api.State {
	s := api.State{Seq: p.Intn(100), Next: 1 + p.Intn(20)}
	for k := range p.few(8, 4) {
		s.Funds = append(s.Funds, api.Fund{Name: string(rune('a' + k)), Parent: p.Intn(k+1) - 1, Limit: max(0, p.up(3)-1) * (60 + p.Intn(60))})
	}
	for range p.few(16, 4) {
		a := api.Alloc{Fund: p.Intn(max(1, len(s.Funds))), From: p.Intn(9), Until: 9 + p.Intn(20), Avail: p.up(30), Liened: p.up(20), Spent: p.up(20)}
		s.World -= a.Avail + a.Liened + a.Spent
		s.Allocs = append(s.Allocs, a)
	}
	for range p.few(16, 4) {
		s.Rates = append(s.Rates, api.Rate{QoS: p.Intn(8), From: p.Intn(9), Price: p.up(9)})
	}
	allWait := p.Intn(5) == 0
	for range p.few(16, 8) {
		j := p.job(s.Next, len(s.Funds), len(s.Allocs))
		if allWait && j.State == 4 {
			j.State = 2
		}
		s.Jobs = append(s.Jobs, j)
	}
	for k := range p.few(8, 4) {
		s.Keys = append(s.Keys, string(rune('A'+k)))
	}
	if p.wild && p.Intn(3) == 0 {
		s.World, s.Seq, s.Next = -p.up(999), max(0, p.up(9))&(1<<60-1), max(0, p.up(9))&(1<<60-1)
	}
	return s
}

// args: of a transaction on that state, mostly ones that may be.
func (p picker) args(s api.State, kind int) []int {
	fund, alloc, to := p.up(len(s.Funds)+1), p.up(len(s.Allocs)+1), p.up(len(s.Allocs)+1)
	id := 1 + p.Intn(s.Next&15+2)
	mask := 1<<p.Intn(32) | 1<<p.Intn(32) | 1<<p.Intn(32)
	if len(s.Jobs) > 0 {
		// Such jobs as the kind is of, as far as there are any.
		for range 4 {
			j := s.Jobs[p.Intn(len(s.Jobs))]
			if id = j.ID; kind < 16 && slices.Contains(statesBy()[min(kind, 14)], j.State) {
				if p.Intn(4) > 0 {
					mask = (1<<(max(0, j.Nodes)&15) - 1) << p.Intn(30)
				}
				break
			}
		}
	}
	switch kind {
	case 1:
		return []int{p.Intn(len(s.Funds)+2) - 1, p.up(200)}
	case 2:
		from := p.up(20)
		return []int{fund, from, from&(1<<41-1) + p.Intn(40), p.up(60)}
	case 3, 4:
		return []int{alloc, p.up(30)}
	case 5:
		return []int{alloc, to, p.up(30)}
	case 6:
		return []int{p.up(9), p.up(20), p.up(9)}
	case 7:
		most := p.few(34, 4)
		return []int{fund, p.up(most + 1), p.up(most + 1), p.up(9), p.up(9), p.up(3)}
	case 8, 9, 10, 11:
		return []int{id}
	case 12:
		return []int{id, p.up(6)}
	case 13:
		return []int{id, p.up(p.few(30, 8) + 1)}
	case 14:
		return []int{id, mask &^ (p.Intn(2) * 255)}
	}
	return nil
}

// tx: a transaction on that state.
func (p picker) tx(s api.State) api.Tx {
	kind := 1 + p.Intn(15)
	if p.wild && p.Intn(40) == 0 {
		kind = p.up(30)
	}
	return p.txOf(s, kind)
}

// txOf: one of that kind.
func (p picker) txOf(s api.State, kind int) api.Tx {
	x := api.Tx{Time: p.up(30), Kind: kind, Args: p.args(s, max(0, min(kind, 20)))}
	if x.Kind == 1 {
		x.Name = string(rune('a' + p.Intn(20)))
	}
	if p.Intn(3) == 0 && (x.Kind <= 7 || x.Kind == 13 || p.Intn(8) == 0) {
		x.Key = string(rune('A' + p.Intn(20)))
	}
	if p.wild {
		switch p.Intn(40) {
		case 0:
			x.Args = append(x.Args, 0)
		case 1:
			x.Args = x.Args[:max(0, len(x.Args)-1)]
		case 2:
			x.Key += "0123456789abcdef"
		case 3:
			x.Name += "0123456789abcdef"
		case 4:
			x.Key = ""
		}
	}
	return x
}

// errorsBy: the errors that there are of each kind, but ErrArg and ErrTwice.
func errorsBy() [][]api.Errno {
	return [][]api.Errno{
		1: {api.ErrMany}, 2: {api.ErrNone, api.ErrMany, api.ErrOver}, 3: {api.ErrNone, api.ErrOver, api.ErrFunds}, 4: {api.ErrNone, api.ErrOver, api.ErrFunds}, 5: {api.ErrNone, api.ErrOver, api.ErrFunds},
		6: {api.ErrMany}, 7: {api.ErrNone, api.ErrMany}, 8: {api.ErrNone, api.ErrState}, 9: {api.ErrNone, api.ErrState}, 10: {api.ErrNone, api.ErrState},
		11: {api.ErrNone, api.ErrState, api.ErrOver, api.ErrFunds}, 12: {api.ErrNone, api.ErrState, api.ErrOver, api.ErrFunds}, 13: {api.ErrNone, api.ErrState, api.ErrFunds},
		14: {api.ErrNone, api.ErrState, api.ErrNodes, api.ErrOver, api.ErrFunds}, 15: {api.ErrNone, api.ErrOver, api.ErrFunds},
	}
}

// P20.1: states and transactions of any kind, held against the words; each kind is done, and has each of its errors, often enough.
func TestAtRandom(t *testing.T) {
	r := rand.New(rand.NewSource(20))
	seen := map[[2]int]int{}
	for turn := range 15000 {
		p := picker{r, turn%3 > 0}
		s := p.state()
		for range 4 {
			x := p.tx(s)
			_, e := same(t, s, x)
			seen[[2]int{x.Kind, int(e)}]++
		}
		if t.Failed() {
			return
		}
	}
	for kind, list := range errorsBy() {
		if kind == 0 {
			continue
		}
		list = append(list, api.OK, api.ErrArg, api.ErrLimit)
		if kind <= 7 || kind == 13 {
			list = append(list, api.ErrTwice)
		}
		for _, e := range list {
			if seen[[2]int{kind, int(e)}] < 10 {
				t.Error("too few of a kind and an error", kind, e, seen[[2]int{kind, int(e)}])
			}
		}
	}
}

// P20.1: transaction behind transaction, from New on: all accounts come to nothing, and each job has what is its own.
func TestFromNew(t *testing.T) {
	r := rand.New(rand.NewSource(21))
	done := map[int]int{}
	for range 200 {
		s := book.New()
		for range 300 {
			x := picker{r, false}.tx(s)
			if r.Intn(2) == 0 {
				x = picker{r, false}.txOf(s, 11+r.Intn(4))
			}
			if len(s.Funds) < 2 {
				x = api.Tx{Kind: 1, Name: string(rune('a' + r.Intn(20))), Args: []int{-1, r.Intn(2) * 300}}
			}
			var e api.Errno
			s, e = same(t, s, x)
			if e == api.OK {
				done[x.Kind]++
			}
			isRight(t, s)
			if t.Failed() {
				return
			}
		}
	}
	for kind := 1; kind <= 15; kind++ {
		if done[kind] < 40 {
			t.Error("too few of a kind", kind, done[kind])
		}
	}
}

// isRight: is nothing lost or doubled, of money, of nodes, of jobs?
func isRight(t *testing.T, s api.State) {
	t.Helper()
	sum := s.World
	liened, spent := make([]int, len(s.Allocs)), make([]int, len(s.Allocs))
	nodes := 0
	for k, j := range s.Jobs {
		total := 0
		for _, d := range j.Draws {
			total += d.Amount
			if j.State == api.Running {
				liened[d.Alloc] += d.Amount
			} else {
				spent[d.Alloc] += d.Amount
			}
		}
		if !job.Good(j) || j.ID >= s.Next || job.Find(s.Jobs, j.ID) != k || nodes&j.Mask != 0 {
			t.Errorf("a job may not be: %+v", s)
		}
		nodes |= j.Mask
		if j.State == api.Running && total != j.Nodes*j.Wall*j.Price {
			t.Errorf("a job that runs has not drawn its price: %+v", j)
		}
	}
	for k, a := range s.Allocs {
		sum += a.Avail + a.Liened + a.Spent
		if a.Avail < 0 || a.Liened != liened[k] || a.Spent < spent[k] {
			t.Errorf("an allocation is wrong: %d of %+v", k, s)
		}
	}
	if sum != 0 || s.World > 0 || tree.Over(s.Funds, s.Allocs) != -1 || len(s.Keys) > 8 {
		t.Errorf("a state is wrong: %+v", s)
	}
}

// P20.1: held against the words.
func FuzzBook(f *testing.F) {
	f.Add(int64(1), true, []byte{1, 255, 0, 2, 0, 0, 50, 40, 7, 0, 3, 10, 0, 0, 2, 14, 1, 7})
	f.Add(int64(2), false, []byte{12, 3, 4, 13, 2, 1, 15, 11, 4})
	f.Add(int64(3), true, []byte{200, 3, 201, 202, 10, 1})
	f.Fuzz(func(t *testing.T, seed int64, wild bool, b []byte) {
		p := picker{rand.New(rand.NewSource(seed)), wild}
		s := p.state()
		b = b[:min(len(b), 200)]
		for len(b) > 0 && !t.Failed() {
			x := p.tx(s)
			if b[0] < 200 {
				x.Kind, x.Key, x.Name, x.Args = int(b[0]%17), "", "", nil
				for _, c := range b[1:min(len(b), 7)] {
					if x.Kind > 15 || len(x.Args) < argsBy()[x.Kind] {
						x.Args = append(x.Args, int(int8(c)))
					}
				}
			}
			b = b[min(len(b), 1+len(x.Args)):]
			s, _ = same(t, s, x)
		}
	})
}
