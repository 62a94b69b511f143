package cons_test

import (
	"math"
	"math/rand"
	"slices"
	"testing"

	"prebend/api"
	"prebend/cons"
)

const (
	lastNow   = 1 << 49
	longest   = 1 << 20
	lastEnd   = lastNow + longest
	mostNodes = 1 << 20
	most      = 1000
)

// line: what Plan and Next are asked of.
type line struct {
	now, total int
	running    []api.Busy
	queue      []api.Ask
	refused    []bool
}

// plan: what Plan answers of it.
func (l line) plan() []int {
	return cons.Plan(l.now, l.total, l.running, l.queue, l.refused)
}

// next: what Next answers of it.
func (l line) next() (int, bool) {
	return cons.Next(l.now, l.total, l.running, l.queue, l.refused)
}

// planIs: Plan answers these ticks.
func planIs(t *testing.T, l line, want ...int) {
	t.Helper()
	if ticks := l.plan(); !slices.Equal(ticks, want) {
		t.Errorf("Plan(%+v) is %v; it should be %v", l, ticks, want)
	}
}

// nextIs: Next answers that place.
func nextIs(t *testing.T, l line, want int) {
	t.Helper()
	if place, ok := l.next(); place != want || !ok {
		t.Errorf("Next(%+v) is %d, %v; it should be %d, true", l, place, ok, want)
	}
}

// nextNone: Next answers false, and nothing else.
func nextNone(t *testing.T, l line) {
	t.Helper()
	if place, ok := l.next(); place != 0 || ok {
		t.Errorf("Next(%+v) is %d, %v; it should be 0, false", l, place, ok)
	}
}

// stretch: so many nodes are busy from a tick on, up to an end.
type stretch struct{ from, end, nodes int }

// known: what runs, as stretches from now on.
func (l line) known() []stretch {
	var busy []stretch
	for _, b := range l.running {
		busy = append(busy, stretch{from: l.now, end: b.End, nodes: b.Nodes})
	}
	return busy
}

// free: by the words, how many are left at a tick.
func (l line) free(busy []stretch, tick int) int {
	left := l.total
	for _, s := range busy {
		if s.from <= tick && tick < s.end {
			left -= s.nodes
		}
	}
	return left
}

// fit: by the words, of small ticks: the least one from which on so many are free for so long; every stretch has ended one day, so that there is one.
func (l line) fit(busy []stretch, nodes, long int) int {
	start := l.now
	for tick := start; tick < start+long; tick++ {
		if l.free(busy, tick) < nodes {
			start = tick + 1
		}
	}
	return start
}

// counts: by the words, does the one at that place count?
func (l line) counts(place int) bool {
	return (place >= len(l.refused) || !l.refused[place]) && l.queue[place].Nodes <= l.total
}

// ticks: by the words, when each is to start.
func (l line) ticks() []int {
	var ticks []int
	busy := l.known()
	for place, ask := range l.queue {
		if !l.counts(place) {
			ticks = append(ticks, -1)
			continue
		}
		long := max(ask.Wall, 1)
		tick := l.fit(busy, ask.Nodes, long)
		busy = append(busy, stretch{from: tick, end: tick + long, nodes: ask.Nodes})
		ticks = append(ticks, tick)
	}
	return ticks
}

// started: with the one at that place busy from now on, and no more in the queue.
func (l line) started(place int) line {
	ask := l.queue[place]
	l.running = append(slices.Clone(l.running), api.Busy{End: l.now + max(ask.Wall, 1), Nodes: ask.Nodes})
	l.queue = slices.Delete(slices.Clone(l.queue), place, place+1)
	if place < len(l.refused) {
		l.refused = slices.Delete(slices.Clone(l.refused), place, place+1)
	}
	return l
}

// same: of small ticks Plan and Next answer what the words say, and whoever starts leaves the others' ticks at what they are.
func same(t *testing.T, l line) {
	t.Helper()
	want := l.ticks()
	planIs(t, l, want...)
	for place, tick := range want {
		if tick != l.now {
			continue
		}
		nextIs(t, l, place)
		planIs(t, l.started(place), slices.Delete(slices.Clone(want), place, place+1)...)
		return
	}
	nextNone(t, l)
}

// P18.1, P18.2, P18.3: the chapter's example; with the second one started the others' ticks stay.
func TestExample(t *testing.T) {
	l := line{total: 4, running: []api.Busy{{End: 5, Nodes: 3}}, queue: []api.Ask{{Nodes: 2, Wall: 9}, {Nodes: 1, Wall: 5}, {Nodes: 1, Wall: 9}}}
	planIs(t, l, 5, 0, 5)
	nextIs(t, l, 1)
	l = l.started(1)
	planIs(t, l, 5, 5)
	nextNone(t, l)
	l.now = 5
	planIs(t, l, 5, 5)
	nextIs(t, l, 0)
	l = l.started(0)
	planIs(t, l, 5)
	nextIs(t, l, 0)
}

// P18.1, P18.2: of an empty queue there is no tick, and nobody starts.
func TestEmptyQueue(t *testing.T) {
	for _, l := range []line{
		{},
		{total: 4, queue: []api.Ask{}, refused: []bool{}},
		{now: 3, total: 4, running: []api.Busy{{End: 5, Nodes: 3}}},
		{total: 4, refused: []bool{false, true}},
	} {
		planIs(t, l)
		nextNone(t, l)
	}
}

// P18.1: where nothing runs the first one starts now, and others beside it while there are nodes.
func TestNothingRuns(t *testing.T) {
	l := line{now: 7, total: 4, queue: []api.Ask{{Nodes: 4, Wall: 9}, {Nodes: 4, Wall: 2}, {Nodes: 1, Wall: 1}}}
	planIs(t, l, 7, 16, 18)
	nextIs(t, l, 0)
	l.queue = []api.Ask{{Nodes: 2, Wall: 9}, {Nodes: 2, Wall: 2}, {Nodes: 1, Wall: 1}, {Nodes: 2, Wall: 7}, {Nodes: 1, Wall: 1}}
	planIs(t, l, 7, 7, 9, 10, 9)
	nextIs(t, l, 0)
	planIs(t, line{total: 0, queue: []api.Ask{{Nodes: 0, Wall: 5}, {Nodes: 1, Wall: 5}, {Nodes: 0, Wall: 0}}}, 0, -1, 0)
}

// P18.1: what ends now, or has ended, is free; what ends a tick later is not.
func TestEnds(t *testing.T) {
	for end, want := range []int{5, 5, 5, 5, 5, 5, 6, 7} {
		l := line{now: 5, total: 4, running: []api.Busy{{End: end, Nodes: 3}}, queue: []api.Ask{{Nodes: 2, Wall: 1}, {Nodes: 1, Wall: 1}}}
		planIs(t, l, want, 5)
		nextIs(t, l, min(end/6, 1))
		l.queue[1].Nodes = 3
		planIs(t, l, want, want+1)
	}
}

// P18.1: one starts only where its Nodes are free for its whole Wall: not ahead of one that ends, and not in a gap that is a tick too short or a node too low.
func TestGaps(t *testing.T) {
	// Of 6 nodes: 2 are free up to 3, 5 up to 10 (that is when all of the first one start), none up to 14.
	l := line{total: 6, running: []api.Busy{{End: 3, Nodes: 3}, {End: 10, Nodes: 1}}}
	for _, c := range []struct{ nodes, wall, want int }{
		{2, 10, 0}, {2, 11, 14}, {2, 3, 0}, {3, 1, 3}, {3, 7, 3}, {3, 8, 14}, {5, 7, 3}, {5, 8, 14}, {6, 1, 14}, {0, 99, 0}, {1, 10, 0}, {1, 11, 14},
	} {
		l.queue = []api.Ask{{Nodes: 6, Wall: 4}, {Nodes: c.nodes, Wall: c.wall}}
		planIs(t, l, 10, c.want)
		if c.want == 0 {
			nextIs(t, l, 1)
		} else {
			nextNone(t, l)
		}
	}
}

// P18.1: all that count ahead of one are taken, in the queue's order, so that a later one never holds up an earlier one.
func TestAheadIsTaken(t *testing.T) {
	l := line{total: 4, running: []api.Busy{{End: 4, Nodes: 2}}}
	l.queue = []api.Ask{{Nodes: 3, Wall: 2}, {Nodes: 2, Wall: 6}, {Nodes: 2, Wall: 4}, {Nodes: 1, Wall: 3}, {Nodes: 1, Wall: 2}, {Nodes: 4, Wall: 1}, {Nodes: 2, Wall: 6}}
	planIs(t, l, 4, 6, 0, 4, 6, 12, 13)
	nextIs(t, l, 2)
	l.queue[6].Wall = 4
	planIs(t, l, 4, 6, 0, 4, 6, 12, 8)
	l.queue[6].Wall = 5
	planIs(t, l, 4, 6, 0, 4, 6, 12, 13)
}

// P18.1: those behind one change nothing about its tick.
func TestBehindChangesNothing(t *testing.T) {
	r := rand.New(rand.NewSource(181))
	for range 3000 {
		l := small(r)
		want := l.plan()
		for k := range l.queue {
			ahead := l
			ahead.queue = l.queue[:k]
			planIs(t, ahead, want[:k]...)
		}
	}
}

// P18.1: a Wall of 0 is one of 1, in the tick of its own and in those of the ones behind it.
func TestNoWall(t *testing.T) {
	l := line{now: 2, total: 3, running: []api.Busy{{End: 4, Nodes: 1}, {End: 6, Nodes: 1}}}
	for wall := range 2 {
		l.queue = []api.Ask{{Nodes: 1, Wall: wall}, {Nodes: 1, Wall: wall}, {Nodes: 2, Wall: wall}, {Nodes: 3, Wall: wall}, {Nodes: 3, Wall: wall}, {Nodes: 1, Wall: 2}}
		planIs(t, l, 2, 3, 4, 6, 7, 8)
		l.queue[5].Wall = wall
		planIs(t, l, 2, 3, 4, 6, 7, 5)
		nextIs(t, l, 0)
		planIs(t, l.started(0), 3, 4, 6, 7, 5)
	}
	l.running = []api.Busy{{End: 3, Nodes: 2}}
	l.queue = []api.Ask{{Nodes: 3, Wall: 0}, {Nodes: 1, Wall: 1}, {Nodes: 1, Wall: 0}, {Nodes: 1, Wall: 0}}
	planIs(t, l, 3, 2, 4, 4)
	nextIs(t, l, 1)
}

// P18.1: one that wants no nodes starts now, and holds up nobody.
func TestNoNodes(t *testing.T) {
	l := line{now: 1, total: 2, running: []api.Busy{{End: 4, Nodes: 2}}}
	l.queue = []api.Ask{{Nodes: 1, Wall: 5}, {Nodes: 0, Wall: longest}, {Nodes: 2, Wall: 1}, {Nodes: 0, Wall: 0}}
	planIs(t, l, 4, 1, 9, 1)
	nextIs(t, l, 1)
	planIs(t, l.started(1), 4, 9, 1)
	nextIs(t, l.started(1), 2)
}

// P18.1: more may be busy than there are: then not even no nodes are free, till enough have ended.
func TestBelowNone(t *testing.T) {
	l := line{total: 2, running: []api.Busy{{End: 3, Nodes: 2}, {End: 4, Nodes: 3}, {End: 7, Nodes: 1}}}
	l.queue = []api.Ask{{Nodes: 0, Wall: 0}, {Nodes: 1, Wall: 3}, {Nodes: 1, Wall: 3}, {Nodes: 2, Wall: 0}}
	planIs(t, l, 4, 4, 7, 10)
	nextNone(t, l)
	l.now = 4
	nextIs(t, l, 0)
	l = line{total: 0, running: l.running, queue: []api.Ask{{}, {Nodes: 1}, {Wall: 9}}}
	planIs(t, l, 7, -1, 7)
	nextNone(t, l)
}

// P18.1, P18.2: one that wants more than there is does not count: it has no tick, and holds up nobody.
func TestTooManyNodes(t *testing.T) {
	l := line{total: 4, running: []api.Busy{{End: 5, Nodes: 3}}}
	l.queue = []api.Ask{{Nodes: 5, Wall: 1}, {Nodes: 4, Wall: 1}, {Nodes: mostNodes, Wall: 0}, {Nodes: 1, Wall: 6}, {Nodes: 1, Wall: 5}}
	planIs(t, l, -1, 5, -1, 6, 0)
	nextIs(t, l, 4)
	l.queue[0].Nodes = 4
	planIs(t, l, 5, 6, -1, 7, 0)
	l.queue = []api.Ask{{Nodes: 5}, {Nodes: 6}}
	planIs(t, l, -1, -1)
	nextNone(t, l)
	l.running, l.queue = nil, []api.Ask{{Nodes: 5}, {Nodes: 4}}
	planIs(t, l, -1, 0)
	nextIs(t, l, 1)
	planIs(t, line{total: 0, queue: []api.Ask{{Nodes: 1}}}, -1)
	nextNone(t, line{total: 0, queue: []api.Ask{{Nodes: 1}}})
}

// P18.1, P18.2: who is refused has no tick, and holds up nobody; the places behind refused's end are not refused.
func TestRefused(t *testing.T) {
	l := line{total: 4, running: []api.Busy{{End: 5, Nodes: 3}}}
	l.queue = []api.Ask{{Nodes: 4, Wall: 9}, {Nodes: 1, Wall: 6}, {Nodes: 1, Wall: 5}, {Nodes: 1, Wall: 2}}
	for _, c := range []struct {
		refused []bool
		plan    []int
		next    int
	}{
		{nil, []int{5, 14, 0, 14}, 2},
		{[]bool{}, []int{5, 14, 0, 14}, 2},
		{[]bool{false}, []int{5, 14, 0, 14}, 2},
		{[]bool{true}, []int{-1, 0, 5, 5}, 1},
		{[]bool{true, true}, []int{-1, -1, 0, 5}, 2},
		{[]bool{false, true}, []int{5, -1, 0, 14}, 2},
		{[]bool{false, true, true}, []int{5, -1, -1, 0}, 3},
		{[]bool{true, true, true}, []int{-1, -1, -1, 0}, 3},
		{[]bool{true, false, true, false, true, true}, []int{-1, 0, -1, 5}, 1},
		{[]bool{false, false, false, false, true}, []int{5, 14, 0, 14}, 2},
	} {
		l.refused = c.refused
		planIs(t, l, c.plan...)
		nextIs(t, l, c.next)
	}
	for _, refused := range [][]bool{{true, true, true, true}, {true, true, true, true, false}, {false, true, true, true}} {
		l.refused = refused
		nextNone(t, l)
	}
	planIs(t, l, 5, -1, -1, -1)
}

// P18.2: the first one whose tick is now starts, not a later one that is shorter, smaller, or of the same tick; a tick of 0 is now only at 0.
func TestFirstOfSeveral(t *testing.T) {
	l := line{total: 8, running: []api.Busy{{End: 5, Nodes: 3}}}
	l.queue = []api.Ask{{Nodes: 6, Wall: 9}, {Nodes: 3, Wall: 6}, {Nodes: 5, Wall: 5}, {Nodes: 1, Wall: 1}, {Nodes: 2, Wall: 5}}
	planIs(t, l, 5, 14, 0, 5, 6)
	nextIs(t, l, 2)
	l.queue[2].Nodes = 2
	planIs(t, l, 5, 14, 0, 0, 0)
	nextIs(t, l, 2)
	l.refused = []bool{false, false, true}
	nextIs(t, l, 3)
	l.now, l.refused = 4, nil
	planIs(t, l, 5, 14, 4, 4, 9)
	nextIs(t, l, 2)
	l.queue[2].Nodes = 5
	planIs(t, l, 5, 14, 14, 4, 4)
	nextIs(t, l, 3)
	l.queue = l.queue[:3]
	nextNone(t, l)
}

// P18.1, P18.2: numbers at their ends.
func TestAtTheEnds(t *testing.T) {
	l := line{now: lastNow, total: mostNodes, running: []api.Busy{{End: lastEnd, Nodes: 1}}}
	l.queue = []api.Ask{{Nodes: mostNodes, Wall: longest}, {Nodes: mostNodes - 1, Wall: longest}, {Nodes: mostNodes - 1, Wall: 1}, {Nodes: 1, Wall: longest}}
	planIs(t, l, lastEnd, lastNow, lastEnd+longest, lastEnd+longest)
	nextIs(t, l, 1)
	l.running[0].End--
	planIs(t, l, lastEnd-1, lastEnd-1+longest, lastNow, lastEnd-1+longest)
	nextIs(t, l, 2)
	l.now = 0
	l.running[0].End = lastEnd
	planIs(t, l, lastEnd, 0, longest, longest+1)
	nextIs(t, l, 1)
}

// P18.1, P18.2: as many as there may be, one behind the other, beside as many that run.
func TestLongQueue(t *testing.T) {
	l := line{now: lastNow, total: mostNodes}
	var want []int
	for k := range most {
		l.running = append(l.running, api.Busy{End: lastEnd - k, Nodes: mostNodes})
		l.queue = append(l.queue, api.Ask{Nodes: mostNodes, Wall: longest})
		want = append(want, lastEnd+k*longest)
	}
	planIs(t, l, want...)
	nextNone(t, l)
	l.refused = slices.Repeat([]bool{true}, most-1)
	planIs(t, l, append(slices.Repeat([]int{-1}, most-1), lastEnd)...)
	// The last one alone has room ahead of all.
	l.refused = nil
	for k := range most {
		l.running[k].Nodes = 1
	}
	l.queue[most-1] = api.Ask{Nodes: mostNodes - most, Wall: longest - most + 1}
	want[most-1] = lastNow
	for k := range most - 1 {
		l.running[k].End = lastEnd
	}
	planIs(t, l, want...)
	nextIs(t, l, most-1)
	l.queue[most-1] = api.Ask{Nodes: mostNodes - most, Wall: longest}
	planIs(t, l, want...)
	l.queue[most-1].Nodes++
	want[most-1] = want[most-2] + longest
	planIs(t, l, want...)
	nextNone(t, l)
	l.refused = append(slices.Repeat([]bool{true}, most-1), true)
	nextNone(t, l)
}

// P18.1: many steps: each that runs ends at a tick of its own, and one of the queue just fits between two of these.
func TestManySteps(t *testing.T) {
	l := line{total: most}
	var want []int
	for k := range most {
		l.running = append(l.running, api.Busy{End: 2 * (k + 1), Nodes: 1})
		l.queue = append(l.queue, api.Ask{Nodes: most - k, Wall: 1})
	}
	for k := range most {
		want = append(want, 2*(most-k))
	}
	planIs(t, l, want...)
	nextNone(t, l)
	for k := range most {
		l.queue[k].Wall = 2
	}
	planIs(t, l, want...)
	l.queue[1].Wall = 3
	want[1] = want[0] + 2
	l.queue[2].Nodes = most - 1
	want[2] = want[0] - 2
	planIs(t, line{total: most, running: l.running, queue: l.queue[:3]}, want[:3]...)
}

// R1: every call answers, whatever it is given, also that of which the chapter does not speak.
func TestAnyArgument(t *testing.T) {
	ends := []int{math.MinInt, -1, 0, 1, math.MaxInt}
	for _, now := range ends {
		for _, total := range ends {
			for _, nodes := range ends {
				for _, end := range ends {
					l := line{now: now, total: total, running: []api.Busy{{End: end, Nodes: nodes}, {End: nodes, Nodes: end}}}
					l.queue = []api.Ask{{Nodes: total, Wall: end}, {Nodes: nodes, Wall: now}, {Nodes: end, Wall: nodes}}
					for _, l.refused = range [][]bool{nil, {true}, {false, true, true, true}} {
						if len(l.plan()) != 3 {
							t.Error(l, l.plan())
						}
						if place, ok := l.next(); place < 0 || place > 2 || !ok && place != 0 {
							t.Error(l, place, ok)
						}
					}
				}
			}
		}
	}
}

// R4, R5: what is handed in stays as it is, its spare room too, and the same calls answer the same, in memory of their own.
func TestNothingIsChanged(t *testing.T) {
	l := line{now: 2, total: 4}
	l.running = []api.Busy{{End: 9, Nodes: 1}, {End: 5, Nodes: 1}, {End: 7, Nodes: 1}, {End: 77, Nodes: 77}, {End: 78, Nodes: 78}}
	l.queue = []api.Ask{{Nodes: 4, Wall: 9}, {Nodes: 3, Wall: 9}, {Nodes: 1, Wall: 7}, {Nodes: 77, Wall: 77}, {Nodes: 78, Wall: 78}}
	l.refused = []bool{false, true, false, true, true}
	kept := line{running: slices.Clone(l.running), queue: slices.Clone(l.queue), refused: slices.Clone(l.refused)}
	short := line{now: 2, total: 4, running: l.running[:3], queue: l.queue[:3], refused: l.refused[:1]}
	var answers [][]int
	for range 3 {
		planIs(t, short, 9, 18, 2)
		nextIs(t, short, 2)
		answer := short.plan()
		answers = append(answers, answer)
		spare := answer[:cap(answer)]
		for k := range spare {
			spare[k] = -len(answers)
		}
		if !slices.Equal(l.running, kept.running) || !slices.Equal(l.queue, kept.queue) || !slices.Equal(l.refused, kept.refused) {
			t.Fatal(l)
		}
	}
	for k, answer := range answers {
		for _, tick := range answer[:cap(answer)] {
			if tick != -k-1 {
				t.Error("answers share their memory", answers)
			}
		}
	}
}

// P18.1, P18.2, P18.3: all queues of 3 of small nodes and walls, refused or not, behind a few that run.
func TestAllSmallQueues(t *testing.T) {
	lists := [][]api.Busy{nil, {{End: 2, Nodes: 2}}, {{End: 1, Nodes: 1}, {End: 3, Nodes: 1}}, {{End: 3, Nodes: 1}, {End: 2, Nodes: 2}, {End: 2, Nodes: 1}}}
	for _, running := range lists {
		for code := range 20 * 20 * 20 {
			var queue []api.Ask
			for k := code; len(queue) < 3; k /= 20 {
				queue = append(queue, api.Ask{Nodes: k % 5, Wall: k % 20 / 5})
			}
			for _, refused := range [][]bool{nil, {true}, {false, true}} {
				for now := range 2 {
					same(t, line{now: now, total: 3, running: running, queue: queue, refused: refused})
				}
			}
		}
	}
}

// small: a line of small numbers.
func small(r *rand.Rand) line {
	l := line{now: r.Intn(10), total: r.Intn(12)}
	for range r.Intn(6) {
		l.running = append(l.running, api.Busy{End: r.Intn(25), Nodes: r.Intn(5)})
	}
	for range r.Intn(12) {
		l.queue = append(l.queue, api.Ask{Nodes: r.Intn(13), Wall: r.Intn(12)})
	}
	for range r.Intn(14) {
		l.refused = append(l.refused, r.Intn(4) == 0)
	}
	return l
}

// P18.1, P18.2, P18.3: held against the words, and enough of each kind.
func TestAtRandom(t *testing.T) {
	r := rand.New(rand.NewSource(18))
	enough := map[string]int{}
	for range 20000 {
		l := small(r)
		same(t, l)
		place, ok := l.next()
		ahead := slices.ContainsFunc(l.plan()[:place], func(tick int) bool { return tick >= 0 })
		switch {
		case !ok && !slices.ContainsFunc(l.plan(), func(tick int) bool { return tick >= 0 }):
			enough["nobody counts"]++
		case !ok:
			enough["nobody may"]++
		case ahead:
			enough["behind"]++
		default:
			enough["head"]++
		}
	}
	for _, kind := range []string{"nobody counts", "nobody may", "head", "behind"} {
		if enough[kind] < 1500 {
			t.Error("too few of a kind", enough)
		}
	}
}

// P18.3: one after the other starts till nobody is left; as all of them are busy up to their Walls, each starts at the tick that it had in the first Plan.
func TestNobodyIsHeldUp(t *testing.T) {
	r := rand.New(rand.NewSource(183))
	started := 0
	for range 5000 {
		l := small(r)
		for place := len(l.queue) - 1; place >= 0; place-- {
			if !l.counts(place) {
				l.queue = slices.Delete(l.queue, place, place+1)
			}
		}
		l.refused = nil
		ticks := l.plan()
		for ; len(ticks) > 0; l.now++ {
			if slices.Min(ticks) < l.now {
				t.Fatalf("of %+v somebody of %v should have started", l, ticks)
			}
			planIs(t, l, ticks...)
			for place, ok := l.next(); ok; place, ok = l.next() {
				if ticks[place] != l.now {
					t.Fatalf("of %+v the one at %d starts; its tick was %d", l, place, ticks[place])
				}
				if slices.Min(ticks[:place+1]) != l.now || slices.Index(ticks, l.now) != place {
					t.Fatalf("of %+v the one at %d starts; of %v another one should", l, place, ticks)
				}
				l = l.started(place)
				ticks = slices.Delete(ticks, place, place+1)
				planIs(t, l, ticks...)
				started++
			}
		}
	}
	if started < 5000 {
		t.Error("too few started", started)
	}
}

// P18.1, P18.2: what holds of small ticks holds of great ones, and of late ones.
func TestGreatTicks(t *testing.T) {
	r := rand.New(rand.NewSource(81))
	for range 10000 {
		by, from := 1+r.Intn(1<<15), r.Intn(lastNow-longest)
		l := small(r)
		for k := range l.queue {
			// A Wall of 0 is one of 1, which is not so many times greater.
			l.queue[k].Wall++
		}
		great := l
		great.now = from + l.now*by
		great.running, great.queue = slices.Clone(l.running), slices.Clone(l.queue)
		for k := range great.running {
			great.running[k].End = from + great.running[k].End*by
		}
		for k := range great.queue {
			great.queue[k].Wall *= by
		}
		want := l.ticks()
		for k, tick := range want {
			if tick >= 0 {
				want[k] = from + tick*by
			}
		}
		planIs(t, great, want...)
		if place := slices.Index(want, great.now); place >= 0 {
			nextIs(t, great, place)
		} else {
			nextNone(t, great)
		}
	}
}

// P18.1, P18.2, P18.3: held against the words.
func FuzzCons(f *testing.F) {
	f.Add([]byte{5, 3}, []byte{2, 9, 0, 1, 5, 0, 1, 9, 0}, 0, 4)
	f.Add([]byte{5, 3, 9, 2, 0, 31}, []byte{6, 31, 0, 3, 6, 0, 1, 6, 1}, 3, 8)
	f.Add([]byte{}, []byte{}, 0, 0)
	f.Fuzz(func(t *testing.T, busy, asks []byte, now, total int) {
		l := line{now: now & 31, total: total & 31}
		for ; len(busy) >= 2 && len(l.running) < 30; busy = busy[2:] {
			l.running = append(l.running, api.Busy{End: int(busy[0] & 63), Nodes: int(busy[1] & 15)})
		}
		for ; len(asks) >= 3 && len(l.queue) < 30; asks = asks[3:] {
			l.queue = append(l.queue, api.Ask{Nodes: int(asks[0] & 31), Wall: int(asks[1] & 63)})
			// A mark in the third byte's second bit leaves a shorter list of who is refused.
			if len(l.refused) == len(l.queue)-1 && asks[2]&2 == 0 {
				l.refused = append(l.refused, asks[2]&1 == 1)
			}
		}
		same(t, l)
	})
}
