package rule_test

import (
	"cmp"
	"math"
	"math/rand"
	"reflect"
	"slices"
	"testing"

	"prebend/api"
	"prebend/book"
	"prebend/rule"
)

// The words of the chapter, one by one; what transactions do is asked of book alone.

// argsBy: how many Args a transaction of each kind has, and a command that asks for it.
func argsBy() [][2]int {
	return [][2]int{1: {2, 2}, {4, 4}, {2, 2}, {2, 2}, {3, 3}, {3, 3}, {6, 5}, {1, 1}, {1, 1}, {1, 1}, {1, 1}, {2, 1}, {2, 2}}
}

// txBy: P21.2.
func txBy(c api.Config, s api.State, now int, x api.Cmd) (api.Tx, api.Errno) {
	if x.Kind < 1 || x.Kind > 13 || len(x.Args) != argsBy()[x.Kind][1] {
		return api.Tx{}, api.ErrArg
	}
	want := api.Tx{Time: now, Kind: x.Kind, Key: x.Key, Name: x.Name, Args: slices.Concat(nil, x.Args)}
	if x.Kind == api.TxSubmit {
		if want.Args[1] > c.Nodes {
			return api.Tx{}, api.ErrNodes
		}
		held := slices.DeleteFunc(slices.Clone(s.Rates), func(r api.Rate) bool { return r.QoS != want.Args[3] || r.From > now })
		if len(held) == 0 {
			return api.Tx{}, api.ErrRate
		}
		slices.SortStableFunc(held, func(one, other api.Rate) int { return cmp.Compare(one.From, other.From) })
		want.Args = append(want.Args, held[len(held)-1].Price)
	}
	if x.Kind == api.TxEnd {
		e := api.ErrNone
		for _, j := range s.Jobs {
			if j.ID != x.Args[0] {
				continue
			}
			e = api.ErrState
			if j.State == api.Running {
				e = api.OK
				want.Args = append(want.Args, usedBy(j, now))
			}
			break
		}
		if e != api.OK {
			return api.Tx{}, e
		}
	}
	return want, api.OK
}

func usedBy(j api.Job, now int) int {
	switch {
	case now <= j.Start:
		return 0
	case now >= j.Start+j.Wall:
		return j.Wall
	}
	return now - j.Start
}

// dueBy: P21.3.
func dueBy(s api.State, now int) []api.Tx {
	var list []api.Tx
	left := slices.Clone(s.Jobs)
	for {
		best := -1
		for k, j := range left {
			end := j.Start + j.Wall
			if j.State != api.Running || end > now {
				continue
			}
			if best < 0 || end < left[best].Start+left[best].Wall || end == left[best].Start+left[best].Wall && j.ID < left[best].ID {
				best = k
			}
		}
		if best < 0 {
			break
		}
		list = append(list, api.Tx{Time: now, Kind: api.TxEnd, Args: []int{left[best].ID, left[best].Wall}})
		left = slices.Delete(left, best, best+1)
	}
	for _, x := range list {
		s, _ = done(s, x)
	}
	if _, e := done(s, api.Tx{Time: now, Kind: api.TxExpire}); e == api.OK {
		list = append(list, api.Tx{Time: now, Kind: api.TxExpire})
	}
	return list
}

// done: the state behind a transaction, or, if it may not be done, as it is.
func done(s api.State, x api.Tx) (api.State, api.Errno) {
	full, e := book.Fill(s, x)
	if e != api.OK {
		return s, e
	}
	after, e := book.Apply(s, full)
	if e != api.OK {
		return s, e
	}
	return after, api.OK
}

// lienBy: P21.4.
func lienBy(s api.State, now, id int) api.Errno {
	mask := 0
	var jobs []api.Job
	for _, j := range s.Jobs {
		if j.ID == id && j.Nodes > 0 {
			mask = 1<<j.Nodes - 1
		}
		j.Mask = 0
		jobs = append(jobs, j)
	}
	s.Jobs = jobs
	_, e := book.Fill(s, api.Tx{Time: now, Kind: api.TxStart, Args: []int{id, mask}})
	return e
}

// queueBy: those that are queued, the first one first, which are refused, and which want more than there is.
func queueBy(c api.Config, s api.State, refused []int) (queue []api.Job, counts []bool) {
	for _, j := range s.Jobs {
		if j.State != api.Queued {
			continue
		}
		at := 0
		for at < len(queue) && (queue[at].Prio > j.Prio || queue[at].Prio == j.Prio && queue[at].ID <= j.ID) {
			at++
		}
		queue = slices.Insert(queue, at, j)
	}
	for _, j := range queue {
		counts = append(counts, j.Nodes <= c.Nodes && !slices.Contains(refused, j.ID))
	}
	return queue, counts
}

// span is nodes that are taken, from a tick on, up to another one.
type span struct{ from, until, nodes int }

// freeBy: how many nodes are free at a tick.
func freeBy(total int, spans []span, at int) int {
	for _, x := range spans {
		if x.from <= at && at < x.until {
			total -= x.nodes
		}
	}
	return total
}

// fitBy: the first tick from which on so many nodes are free for so long; what is free changes nowhere but where a span begins or ends.
func fitBy(now, total int, spans []span, nodes, long int) int {
	ticks := []int{now}
	for _, x := range spans {
		ticks = append(ticks, x.from, x.until)
	}
	slices.Sort(ticks)
	for _, at := range ticks {
		if at < now || freeBy(total, spans, at) < nodes {
			continue
		}
		fits := true
		for _, t := range ticks {
			fits = fits && (t < at || t >= at+long || freeBy(total, spans, t) >= nodes)
		}
		if fits {
			return at
		}
	}
	return -1
}

// nextBy: P21.4, by the words of chapters 17 and 18.
func nextBy(c api.Config, s api.State, now int, refused []int) (int, bool) {
	var spans []span
	for _, j := range s.Jobs {
		if j.State == api.Running {
			spans = append(spans, span{math.MinInt, j.Start + j.Wall, j.Nodes})
		}
	}
	queue, counts := queueBy(c, s, refused)
	free := freeBy(c.Nodes, spans, now)
	hasHead, shadow, extra := false, 0, 0
	for k, j := range queue {
		if !counts[k] {
			continue
		}
		if c.Mode == api.Strict {
			at := fitBy(now, c.Nodes, spans, j.Nodes, max(1, j.Wall))
			if at == now {
				return j.ID, true
			}
			spans = append(spans, span{at, at + max(1, j.Wall), j.Nodes})
			continue
		}
		if !hasHead {
			if j.Nodes <= free {
				return j.ID, true
			}
			hasHead, shadow = true, fitBy(now, c.Nodes, spans, j.Nodes, 1)
			extra = freeBy(c.Nodes, spans, shadow) - j.Nodes
			continue
		}
		if j.Nodes <= free && (now+j.Wall <= shadow || j.Nodes <= extra) {
			return j.ID, true
		}
	}
	return 0, false
}

// startBy: P21.4, node by node.
func startBy(c api.Config, s api.State, now, id int) (api.Tx, api.Errno) {
	for _, j := range s.Jobs {
		if j.ID != id {
			continue
		}
		mask, missing := 0, j.Nodes
		for node := 0; node < 32 && missing > 0; node++ {
			isFree := node < c.Nodes
			for _, other := range s.Jobs {
				isFree = isFree && (other.State != api.Running || other.Mask>>node%2 == 0)
			}
			if isFree {
				mask += 1 << node
				missing--
			}
		}
		if missing > 0 {
			return api.Tx{}, api.ErrNodes
		}
		return api.Tx{Time: now, Kind: api.TxStart, Args: []int{id, mask}}, api.OK
	}
	return api.Tx{}, api.ErrNone
}

// deep: the same state in memory of its own, without empty lists.
func deep(s api.State) api.State {
	s.Funds = slices.Concat(nil, s.Funds)
	s.Allocs = slices.Concat(nil, s.Allocs)
	s.Rates = slices.Concat(nil, s.Rates)
	s.Jobs = slices.Concat(nil, s.Jobs)
	s.Keys = slices.Concat(nil, s.Keys)
	for k := range s.Jobs {
		s.Jobs[k].Draws = slices.Concat(nil, s.Jobs[k].Draws)
	}
	return s
}

// roomy: the same list, with spare room, in which something lies.
func roomy[T any](list []T, rest ...T) []T {
	return append(slices.Clone(list), rest...)[:len(list)]
}

// roomyState: the same state, whose lists have spare room.
func roomyState(s api.State) api.State {
	s.Funds = roomy(s.Funds, api.Fund{Name: "room", Parent: 77}, api.Fund{Name: "more"})
	s.Allocs = roomy(s.Allocs, api.Alloc{Fund: 77, Avail: 77}, api.Alloc{Fund: 78})
	s.Rates = roomy(s.Rates, api.Rate{QoS: 77}, api.Rate{QoS: 78})
	s.Jobs = roomy(s.Jobs, api.Job{ID: 77, State: 3, Mask: 77}, api.Job{ID: 78, State: 1})
	s.Keys = roomy(s.Keys, "room", "more")
	for k := range s.Jobs {
		s.Jobs[k].Draws = roomy(s.Jobs[k].Draws, api.Draw{Alloc: 77, Amount: 77}, api.Draw{Alloc: 78, Amount: 78})
	}
	return s
}

// wholeState: a copy of all that there is of a state, spare room too.
func wholeState(s api.State) api.State {
	s.Funds, s.Allocs, s.Rates = s.Funds[:cap(s.Funds)], s.Allocs[:cap(s.Allocs)], s.Rates[:cap(s.Rates)]
	s.Jobs, s.Keys = s.Jobs[:cap(s.Jobs)], s.Keys[:cap(s.Keys)]
	s = deep(s)
	for k, j := range s.Jobs {
		s.Jobs[k].Draws = slices.Clone(j.Draws[:cap(j.Draws)])
	}
	return s
}

// sameTx: are they the same, an empty list being as good as none?
func sameTx(x, y api.Tx) bool {
	isSame := slices.Equal(x.Args, y.Args) && slices.Equal(x.Legs, y.Legs)
	x.Args, x.Legs, y.Args, y.Legs = nil, nil, nil, nil
	return isSame && reflect.DeepEqual(x, y)
}

// unchanged: calls something with a state with spare room, and looks whether that is as it was (R4).
func unchanged(t *testing.T, s api.State, call func(s api.State)) {
	t.Helper()
	given := roomyState(s)
	was := wholeState(given)
	call(given)
	if !reflect.DeepEqual(was, wholeState(given)) {
		t.Errorf("a state was changed: %+v", s)
	}
}

// txIs, dueIs, lienIs, nextIs, startIs: the calls answer that, and leave what is handed in as it is.
func txIs(t *testing.T, c api.Config, s api.State, now int, x api.Cmd, want api.Tx, wantE api.Errno) {
	t.Helper()
	unchanged(t, s, func(given api.State) {
		asked := x
		asked.Args = roomy(x.Args, 77, 78)
		y, e := rule.Tx(c, given, now, asked)
		if e != wantE || !sameTx(y, want) {
			t.Errorf("Tx(%+v, %+v, %d, %+v) is %+v, %d; it should be %+v, %d", c, s, now, x, y, e, want, wantE)
		}
		if !slices.Equal(asked.Args[:len(x.Args)+2], slices.Concat(x.Args, []int{77, 78})) {
			t.Errorf("Tx(%+v) changed its Args", x)
		}
	})
}

func dueIs(t *testing.T, s api.State, now int, want []api.Tx) {
	t.Helper()
	unchanged(t, s, func(given api.State) {
		if list := rule.Due(given, now); !slices.EqualFunc(list, want, sameTx) {
			t.Errorf("Due(%+v, %d) is %+v; it should be %+v", s, now, list, want)
		}
	})
}

func lienIs(t *testing.T, s api.State, now, id int, want api.Errno) {
	t.Helper()
	unchanged(t, s, func(given api.State) {
		if e := rule.Lien(given, now, id); e != want {
			t.Errorf("Lien(%+v, %d, %d) is %d; it should be %d", s, now, id, e, want)
		}
	})
}

func nextIs(t *testing.T, c api.Config, s api.State, now int, refused []int, want int, wantOK bool) {
	t.Helper()
	unchanged(t, s, func(given api.State) {
		not := roomy(refused, 1, 2, 3)
		id, ok := rule.Next(c, given, now, not)
		if id != want || ok != wantOK {
			t.Errorf("Next(%+v, %+v, %d, %v) is %d, %v; it should be %d, %v", c, s, now, refused, id, ok, want, wantOK)
		}
		if !slices.Equal(not[:len(refused)+3], slices.Concat(refused, []int{1, 2, 3})) {
			t.Errorf("Next changed %v", refused)
		}
	})
}

func startIs(t *testing.T, c api.Config, s api.State, now, id int, want api.Tx, wantE api.Errno) {
	t.Helper()
	unchanged(t, s, func(given api.State) {
		x, e := rule.Start(c, given, now, id)
		if e != wantE || !sameTx(x, want) {
			t.Errorf("Start(%+v, %+v, %d, %d) is %+v, %d; it should be %+v, %d", c, s, now, id, x, e, want, wantE)
		}
	})
}

// sameTxOf, sameRest: all calls answer what the words ask for.
func sameTxOf(t *testing.T, c api.Config, s api.State, now int, x api.Cmd) api.Errno {
	t.Helper()
	want, e := txBy(c, s, now, x)
	txIs(t, c, s, now, x, want, e)
	return e
}

func sameRest(t *testing.T, c api.Config, s api.State, now int, refused []int) {
	t.Helper()
	dueIs(t, s, now, dueBy(s, now))
	for _, mode := range []int{api.Easy, api.Strict} {
		c.Mode = mode
		want, ok := nextBy(c, s, now, refused)
		nextIs(t, c, s, now, refused, want, ok)
	}
	ids := []int{0, -1, 99}
	for _, j := range s.Jobs {
		ids = append(ids, j.ID)
	}
	for _, id := range ids {
		lienIs(t, s, now, id, lienBy(s, now, id))
		want, e := startBy(c, s, now, id)
		startIs(t, c, s, now, id, want, e)
	}
}

// picker picks numbers: mostly small ones, some at their ends where it is wild.
type picker struct {
	*rand.Rand
	wild bool
}

func (p picker) up(n int) int {
	if p.wild && p.Intn(12) == 0 {
		ends := []int{-1, 0, 1, 32, 33, 1 << 20, 1 << 40, 1<<40 + 1, 1 << 59, 1 << 60, 1<<60 + 1, -1 << 60, math.MaxInt, math.MinInt}
		return ends[p.Intn(len(ends))]
	}
	return p.Intn(n)
}

// within: a number up to n, or, where it is wild, one up to most.
func (p picker) within(n, most int) int {
	if p.wild && p.Intn(10) == 0 {
		return []int{0, 1, most - 1, most}[p.Intn(4)]
	}
	return p.Intn(n)
}

func (p picker) now() int { return p.within(25, 1<<40) }

func (p picker) config() api.Config {
	return api.Config{Nodes: 1 + p.within(6, 31), Mode: 1 + p.Intn(2), Slot: 4, Log: 60}
}

// job: one with a place in the queue, or one that runs, or did.
func (p picker) job(id, funds, allocs int) api.Job {
	j := api.Job{ID: id, Fund: p.Intn(max(1, funds)), Nodes: p.within(4, 32), Wall: p.within(9, 1<<20), QoS: p.Intn(8), Prio: p.Intn(4), Price: p.up(3), State: 1 + p.Intn(4)}
	if p.Intn(3) == 0 {
		j.State = api.Queued
	}
	if j.State == api.Running {
		j.Start, j.Mask = p.within(20, 1<<48), 1<<p.Intn(6)|1<<p.Intn(6)
	}
	if j.State > api.Held {
		for range p.Intn(4) {
			j.Draws = append(j.Draws, api.Draw{Alloc: p.Intn(max(1, allocs)), Amount: p.up(12)})
		}
	}
	if p.wild && p.Intn(9) == 0 {
		j.State, j.Mask = p.up(6), p.up(99)
	}
	return j
}

// state: one as the chapter's brackets have it.
func (p picker) state() api.State {
	s := api.State{Seq: p.Intn(100), Next: 30}
	for k := range 1 + p.Intn(4) {
		s.Funds = append(s.Funds, api.Fund{Name: string(rune('a' + k)), Parent: p.Intn(k+1) - 1, Limit: max(0, p.up(3)-1) * (40 + p.Intn(60))})
	}
	for range p.Intn(6) {
		a := api.Alloc{Fund: p.Intn(len(s.Funds)), From: p.Intn(9), Until: 9 + p.Intn(20), Avail: p.up(30) * p.Intn(2), Liened: p.up(20), Spent: p.up(20)}
		s.World -= a.Avail + a.Liened + a.Spent
		s.Allocs = append(s.Allocs, a)
	}
	for range p.Intn(9) {
		s.Rates = append(s.Rates, api.Rate{QoS: p.Intn(4), From: p.up(20), Price: p.up(9)})
	}
	ids := p.Perm(20)
	for k := range p.Intn(9) {
		s.Jobs = append(s.Jobs, p.job(ids[k], len(s.Funds), len(s.Allocs)))
	}
	if p.wild && p.Intn(3) == 0 {
		s.World = -p.up(999)
	}
	return s
}

// cmd: a command, mostly one that asks for a transaction.
func (p picker) cmd() api.Cmd {
	x := api.Cmd{Kind: p.Intn(15), Key: string(rune('A' + p.Intn(9))), Name: string(rune('a' + p.Intn(9)))}
	if p.Intn(2) == 0 {
		x.Kind = []int{api.TxSubmit, api.TxEnd}[p.Intn(2)]
	}
	if p.wild {
		x.Kind = p.up(x.Kind + 1)
	}
	many := p.Intn(8)
	if 1 <= x.Kind && x.Kind <= 13 && p.Intn(6) > 0 {
		many = argsBy()[x.Kind][1]
	}
	for range many {
		x.Args = append(x.Args, p.up(p.Intn(20)+1))
	}
	if x.Kind == api.TxSubmit && many == 5 {
		x.Args[1], x.Args[3] = p.up(7), p.up(5)
	}
	return x
}

// P21.2 to P21.4: states and commands of any kind, held against the words; each thing comes often enough.
func TestAtRandom(t *testing.T) {
	r := rand.New(rand.NewSource(21))
	seen := map[string]int{}
	for turn := range 8000 {
		p := picker{r, turn%3 == 0}
		c, s, now := p.config(), p.state(), p.now()
		for range 4 {
			x := p.cmd()
			e := sameTxOf(t, c, s, now, x)
			if x.Kind == api.TxSubmit || x.Kind == api.TxEnd {
				seen[string(rune('A'+x.Kind))+string(rune('A'+e))]++
			}
		}
		var refused []int
		for range p.Intn(4) {
			refused = append(refused, p.Intn(20))
		}
		sameRest(t, c, s, now, refused)
		p.count(seen, c, s, now, refused)
		if t.Failed() {
			return
		}
	}
	want := map[string]int{}
	for _, kind := range []string{"HA", "lienA", "startA"} {
		want[kind] = 500
	}
	for _, name := range []string{"HB", "HN", "HM", "MA", "MB", "ME", "MJ", "next1", "next2", "none", "due0", "due1", "due2", "due3", "expire", "not done", "lienE", "lienC", "lienH", "lienI", "lienJ", "startE", "startN"} {
		want[name] = 100
	}
	want["expire behind"] = 30
	for name, least := range want {
		if seen[name] < least {
			t.Error("too few of", name, seen[name])
		}
	}
}

// count: what of the words came.
func (p picker) count(seen map[string]int, c api.Config, s api.State, now int, refused []int) {
	for mode := 1; mode <= 2; mode++ {
		c.Mode = mode
		if _, ok := nextBy(c, s, now, refused); ok {
			seen["next"+string(rune('0'+mode))]++
		} else {
			seen["none"]++
		}
	}
	list := dueBy(s, now)
	seen["due"+string(rune('0'+min(3, len(list))))]++
	if len(list) > 0 && list[len(list)-1].Kind == api.TxExpire {
		seen["expire"]++
		if _, e := done(s, list[len(list)-1]); e != api.OK {
			seen["expire behind"]++
		}
	}
	for _, x := range list {
		var e api.Errno
		if s, e = done(s, x); e != api.OK {
			seen["not done"]++
		}
	}
	for _, j := range s.Jobs {
		seen["lien"+string(rune('A'+lienBy(s, now, j.ID)))]++
		_, e := startBy(c, s, now, j.ID)
		seen["start"+string(rune('A'+e))]++
	}
	seen["lien"+string(rune('A'+lienBy(s, now, 99)))]++
	_, e := startBy(c, s, now, 99)
	seen["start"+string(rune('A'+e))]++
}

// queue: a state in which some run, and many are queued.
func (p picker) queue(nodes, now int) api.State {
	var s api.State
	ids := p.Perm(20)
	for k := range 3 + p.Intn(10) {
		j := api.Job{ID: ids[k], Nodes: 1 + p.Intn(nodes), Wall: p.Intn(12), Prio: p.Intn(4), State: api.Queued}
		switch p.Intn(5) {
		case 0:
			j.Start, j.State = now-p.Intn(min(4, now+1)), api.Running
		case 1:
			j.State = p.Intn(5)
		}
		s.Jobs = append(s.Jobs, j)
	}
	return s
}

// P21.4: queues of many, held against the words; the modes differ often enough.
func TestQueuesAtRandom(t *testing.T) {
	r := rand.New(rand.NewSource(22))
	differ := map[string]int{}
	for range 20000 {
		p := picker{r, false}
		c, now := api.Config{Nodes: 1 + p.Intn(8), Slot: 4, Log: 60}, p.Intn(9)
		s := p.queue(c.Nodes, now)
		var refused []int
		for range p.Intn(5) {
			refused = append(refused, p.Intn(20))
		}
		var ids [3]int
		for _, c.Mode = range []int{api.Easy, api.Strict} {
			want, ok := nextBy(c, s, now, refused)
			nextIs(t, c, s, now, refused, want, ok)
			ids[c.Mode] = want
		}
		if ids[1] != ids[2] {
			differ["modes"]++
		}
		c.Mode = api.Easy
		if id, _ := nextBy(c, s, now, nil); id != ids[1] {
			differ["refused"]++
		}
		if queue, _ := queueBy(c, s, refused); len(queue) > 0 && ids[1] != 0 && queue[0].ID != ids[1] {
			differ["behind"]++
		}
		if t.Failed() {
			return
		}
	}
	if differ["modes"] < 30 || differ["refused"] < 300 || differ["behind"] < 300 {
		t.Error("too few of a kind", differ)
	}
}

// P21.2 to P21.4: held against the words.
func FuzzRule(f *testing.F) {
	f.Add(int64(1), true, 5, 1, []byte{1, 2, 3})
	f.Add(int64(2), false, 1<<40, 7, []byte{0, 2, 9, 0, 1})
	f.Add(int64(3), true, 9, 12, []byte{3})
	f.Fuzz(func(t *testing.T, seed int64, wild bool, now, kind int, b []byte) {
		p := picker{rand.New(rand.NewSource(seed)), wild}
		c, s := p.config(), p.state()
		now &= 1<<40 - 1
		x := api.Cmd{Kind: kind, Key: string(b)}
		var refused []int
		for _, n := range b[:min(len(b), 100)] {
			x.Args = append(x.Args, int(int8(n)))
			refused = append(refused, int(n%32))
		}
		sameTxOf(t, c, s, now, x)
		sameTxOf(t, c, s, now, p.cmd())
		sameRest(t, c, s, now, refused)
	})
}
