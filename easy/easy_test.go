package easy_test

import (
	"math"
	"math/rand"
	"slices"
	"testing"

	"prebend/api"
	"prebend/easy"
)

const (
	lastNow   = 1 << 49
	lastEnd   = 1 << 50
	mostNodes = 1 << 20
	most      = 1000
)

// shadowIs: Shadow answers that tick, and that many more.
func shadowIs(t *testing.T, now, total int, running []api.Busy, nodes, at, extra int) {
	t.Helper()
	if a, x, ok := easy.Shadow(now, total, running, nodes); a != at || x != extra || !ok {
		t.Errorf("Shadow(%d, %d, %v, %d) is %d, %d, %v; it should be %d, %d, true", now, total, running, nodes, a, x, ok, at, extra)
	}
}

// shadowNone: Shadow answers false, and nothing else.
func shadowNone(t *testing.T, now, total int, running []api.Busy, nodes int) {
	t.Helper()
	if a, x, ok := easy.Shadow(now, total, running, nodes); a != 0 || x != 0 || ok {
		t.Errorf("Shadow(%d, %d, %v, %d) is %d, %d, %v; it should be 0, 0, false", now, total, running, nodes, a, x, ok)
	}
}

// plan: what Next is asked of.
type plan struct {
	now, total int
	running    []api.Busy
	queue      []api.Ask
	refused    []bool
}

// next: what Next answers of it.
func (p plan) next() (int, bool) {
	return easy.Next(p.now, p.total, p.running, p.queue, p.refused)
}

// nextIs: Next answers that place.
func nextIs(t *testing.T, p plan, want int) {
	t.Helper()
	if place, ok := p.next(); place != want || !ok {
		t.Errorf("Next(%+v) is %d, %v; it should be %d, true", p, place, ok, want)
	}
}

// nextNone: Next answers false, and nothing else.
func nextNone(t *testing.T, p plan) {
	t.Helper()
	if place, ok := p.next(); place != 0 || ok {
		t.Errorf("Next(%+v) is %d, %v; it should be 0, false", p, place, ok)
	}
}

// free: by the words, how many are free at a tick.
func free(total int, running []api.Busy, tick int) int {
	for _, b := range running {
		if b.End > tick {
			total -= b.Nodes
		}
	}
	return total
}

// shadow: by the words, of small ticks: the first tick at which so many are free; -1, if there is none.
func shadow(now, total int, running []api.Busy, nodes int) int {
	last := now
	for _, b := range running {
		last = max(last, b.End)
	}
	for tick := now; tick <= last; tick++ {
		if free(total, running, tick) >= nodes {
			return tick
		}
	}
	return -1
}

// counts: by the words, does the one at that place count?
func (p plan) counts(place int) bool {
	return (place >= len(p.refused) || !p.refused[place]) && p.queue[place].Nodes <= p.total
}

// head: by the words, the first place of one that counts; -1, if there is none.
func (p plan) head() int {
	for place := range p.queue {
		if p.counts(place) {
			return place
		}
	}
	return -1
}

// with: what runs, with the one at that place started too.
func (p plan) with(place int) []api.Busy {
	ask := p.queue[place]
	return append(slices.Clone(p.running), api.Busy{End: p.now + ask.Wall, Nodes: ask.Nodes})
}

// mayStart: by what comes of it, may the one at that place start behind the head? It has its nodes now, and with it the head's tick stays.
func (p plan) mayStart(place int) bool {
	if !p.counts(place) || p.queue[place].Nodes > free(p.total, p.running, p.now) {
		return false
	}
	nodes := p.queue[p.head()].Nodes
	return shadow(p.now, p.total, p.with(place), nodes) == shadow(p.now, p.total, p.running, nodes)
}

// starts: by the words, the place of who may start; -1, if there is nobody.
func (p plan) starts() int {
	head := p.head()
	if head < 0 {
		return -1
	}
	now := free(p.total, p.running, p.now)
	if p.queue[head].Nodes <= now {
		return head
	}
	at := shadow(p.now, p.total, p.running, p.queue[head].Nodes)
	extra := free(p.total, p.running, at) - p.queue[head].Nodes
	for place := head + 1; place < len(p.queue); place++ {
		ask := p.queue[place]
		short, narrow := p.now+ask.Wall <= at, ask.Nodes <= extra
		if p.counts(place) && ask.Nodes <= now && (short || narrow) {
			return place
		}
	}
	return -1
}

// sameShadow: Shadow of small ticks answers what the words say.
func sameShadow(t *testing.T, now, total int, running []api.Busy, nodes int) {
	t.Helper()
	at := shadow(now, total, running, nodes)
	if at < 0 {
		shadowNone(t, now, total, running, nodes)
		return
	}
	shadowIs(t, now, total, running, nodes, at, free(total, running, at)-nodes)
}

// sameNext: Next of small ticks answers what the words say, and nobody ahead of that could start without holding up the head.
func sameNext(t *testing.T, p plan) {
	t.Helper()
	place := p.starts()
	if place < 0 {
		nextNone(t, p)
		place = len(p.queue)
	} else {
		nextIs(t, p, place)
	}
	head := p.head()
	if head < 0 || place == head {
		return
	}
	for between := head + 1; between < place; between++ {
		if p.mayStart(between) {
			t.Errorf("of %+v the one at %d may start too", p, between)
		}
	}
	if place < len(p.queue) && !p.mayStart(place) {
		t.Errorf("of %+v the one at %d holds up the head", p, place)
	}
}

// P17.2: the chapter's example; with the second one started the third one may not.
func TestExample(t *testing.T) {
	p := plan{total: 4, running: []api.Busy{{End: 5, Nodes: 3}}, queue: []api.Ask{{Nodes: 2, Wall: 9}, {Nodes: 1, Wall: 5}, {Nodes: 1, Wall: 9}}}
	shadowIs(t, 0, 4, p.running, 2, 5, 2)
	nextIs(t, p, 1)
	p.running = p.with(1)
	shadowIs(t, 0, 4, p.running, 2, 5, 2)
	p.queue = []api.Ask{{Nodes: 2, Wall: 9}, {Nodes: 1, Wall: 9}}
	nextNone(t, p)
	p.now = 5
	nextIs(t, p, 0)
}

// P17.1: where nothing runs, all are free from now on.
func TestShadowOfNone(t *testing.T) {
	shadowIs(t, 0, 0, nil, 0, 0, 0)
	shadowNone(t, 0, 0, nil, 1)
	shadowIs(t, 7, 4, nil, 0, 7, 4)
	shadowIs(t, 7, 4, []api.Busy{}, 3, 7, 1)
	shadowIs(t, 7, 4, nil, 4, 7, 0)
	shadowNone(t, 7, 4, nil, 5)
	shadowNone(t, 7, 4, nil, mostNodes)
}

// P17.1: what ends now, or has ended, is free; what ends a tick later is not.
func TestShadowEnds(t *testing.T) {
	shadowIs(t, 5, 4, []api.Busy{{End: 4, Nodes: 3}}, 2, 5, 2)
	shadowIs(t, 5, 4, []api.Busy{{End: 5, Nodes: 3}}, 2, 5, 2)
	shadowIs(t, 5, 4, []api.Busy{{End: 6, Nodes: 3}}, 2, 6, 2)
	shadowIs(t, 5, 4, []api.Busy{{End: 0, Nodes: 4}}, 4, 5, 0)
	shadowIs(t, 5, 4, []api.Busy{{End: 6, Nodes: 3}}, 1, 5, 0)
	shadowIs(t, 0, 4, []api.Busy{{End: 1, Nodes: 4}}, 0, 0, 0)
	shadowIs(t, 0, 4, []api.Busy{{End: 1, Nodes: 4}}, 1, 1, 3)
}

// P17.1: one after the other they end, some at once, in whatever order they come; what is more is what is free at that tick.
func TestShadowOfMany(t *testing.T) {
	running := []api.Busy{{End: 8, Nodes: 2}, {End: 3, Nodes: 1}, {End: 8, Nodes: 1}, {End: 6, Nodes: 4}, {End: 7, Nodes: 0}}
	for nodes, want := range []struct{ at, extra int }{{2, 1}, {2, 0}, {3, 0}, {6, 3}, {6, 2}, {6, 1}, {6, 0}, {8, 2}, {8, 1}, {8, 0}} {
		shadowIs(t, 2, 9, running, nodes, want.at, want.extra)
	}
	shadowNone(t, 2, 9, running, 10)
	shadowIs(t, 3, 9, running, 2, 3, 0)
	shadowIs(t, 6, 9, running, 2, 6, 4)
	shadowIs(t, 7, 9, running, 9, 8, 0)
	shadowIs(t, 9, 9, running, 9, 9, 0)
}

// P17.1: more may be busy than there are: then not even no nodes are free.
func TestShadowBelowNone(t *testing.T) {
	running := []api.Busy{{End: 3, Nodes: 2}, {End: 4, Nodes: 3}}
	shadowIs(t, 0, 2, running, 0, 4, 2)
	shadowIs(t, 0, 2, running, 2, 4, 0)
	shadowNone(t, 0, 2, running, 3)
	shadowIs(t, 0, 3, running, 0, 3, 0)
	shadowIs(t, 0, 0, running, 0, 4, 0)
	nextNone(t, plan{total: 0, running: running, queue: []api.Ask{{}, {}}})
	nextNone(t, plan{total: 2, running: running, queue: []api.Ask{{Nodes: 0, Wall: 0}, {Nodes: 0, Wall: 1}}})
	nextIs(t, plan{now: 3, total: 3, running: running, queue: []api.Ask{{Nodes: 1}, {Nodes: 0, Wall: 1}}}, 1)
}

// P17.1: numbers at their ends.
func TestShadowAtTheEnds(t *testing.T) {
	all := []api.Busy{{End: lastEnd, Nodes: mostNodes}}
	shadowIs(t, 0, mostNodes, all, mostNodes, lastEnd, 0)
	shadowIs(t, lastNow, mostNodes, all, 1, lastEnd, mostNodes-1)
	shadowIs(t, lastNow, mostNodes, all, 0, lastNow, 0)
	shadowIs(t, lastNow, mostNodes, nil, mostNodes, lastNow, 0)
	running := slices.Repeat(all, most)
	shadowIs(t, 0, mostNodes, running, 0, lastEnd, mostNodes)
	shadowIs(t, lastNow, 0, running, 0, lastEnd, 0)
	shadowNone(t, lastNow, 0, running, 1)
	for k := range running {
		running[k].End = lastEnd - k
	}
	shadowIs(t, 0, mostNodes, running, 1, lastEnd, mostNodes-1)
	for k := range running {
		running[k].Nodes = 1
	}
	shadowIs(t, 0, most, running, 1, lastEnd-most+1, 0)
	shadowIs(t, 0, most, running, most-1, lastEnd-1, 0)
	shadowIs(t, 0, most, running, most, lastEnd, 0)
}

// P17.2: the head starts, if its Nodes are free now, whatever its Wall; whoever is behind it waits.
func TestHead(t *testing.T) {
	running := []api.Busy{{End: 5, Nodes: 3}}
	for _, wall := range []int{0, 1, 5, 6, lastNow} {
		nextIs(t, plan{total: 8, running: running, queue: []api.Ask{{Nodes: 5, Wall: wall}, {Nodes: 1, Wall: 1}}}, 0)
		nextIs(t, plan{total: 8, running: running, queue: []api.Ask{{Nodes: 0, Wall: wall}}}, 0)
		nextNone(t, plan{total: 8, running: running, queue: []api.Ask{{Nodes: 6, Wall: wall}}})
	}
	nextNone(t, plan{total: 8, now: 4, running: running, queue: []api.Ask{{Nodes: 8}}})
	nextIs(t, plan{total: 8, now: 5, running: running, queue: []api.Ask{{Nodes: 8}}}, 0)
	nextIs(t, plan{total: 0, queue: []api.Ask{{Nodes: 0, Wall: 3}}}, 0)
}

// P17.2: of nobody, or of nobody who counts, nobody starts.
func TestNobody(t *testing.T) {
	nextNone(t, plan{})
	nextNone(t, plan{total: 4, queue: []api.Ask{}, refused: []bool{}})
	nextNone(t, plan{total: 4, refused: []bool{false, true}})
	nextNone(t, plan{total: 4, queue: []api.Ask{{Nodes: 5}, {Nodes: mostNodes}}})
	nextNone(t, plan{total: 4, queue: []api.Ask{{Nodes: 1}, {Nodes: 5}, {Nodes: 1}}, refused: []bool{true, false, true}})
	nextNone(t, plan{total: 0, queue: []api.Ask{{Nodes: 1}}})
}

// P17.2: one that wants more than there is does not count: it neither starts nor is the head.
func TestTooManyNodes(t *testing.T) {
	running := []api.Busy{{End: 5, Nodes: 3}}
	nextIs(t, plan{total: 4, running: running, queue: []api.Ask{{Nodes: 5, Wall: 1}, {Nodes: 1, Wall: 99}}}, 1)
	nextNone(t, plan{total: 4, running: running, queue: []api.Ask{{Nodes: 4, Wall: 1}, {Nodes: 1, Wall: 99}}})
	nextNone(t, plan{total: 4, running: running, queue: []api.Ask{{Nodes: 5, Wall: 1}, {Nodes: 2, Wall: 1}, {Nodes: 5, Wall: 1}, {Nodes: 2, Wall: 1}}})
	nextIs(t, plan{total: 4, running: running, queue: []api.Ask{{Nodes: 2}, {Nodes: 5}, {Nodes: 1}}}, 2)
	nextIs(t, plan{total: 4, queue: []api.Ask{{Nodes: 5}, {Nodes: 4}}}, 1)
}

// P17.2: who is refused neither starts nor is the head; the places behind refused's end are not refused.
func TestRefused(t *testing.T) {
	running := []api.Busy{{End: 5, Nodes: 3}}
	queue := []api.Ask{{Nodes: 4, Wall: 9}, {Nodes: 2, Wall: 9}, {Nodes: 1, Wall: 6}, {Nodes: 1, Wall: 5}, {Nodes: 1, Wall: 4}}
	p := plan{total: 4, running: running, queue: queue}
	for _, c := range []struct {
		refused []bool
		want    int
	}{
		{nil, 3},
		{[]bool{}, 3},
		{[]bool{false}, 3},
		{[]bool{true}, 2},
		{[]bool{true, true}, 2},
		{[]bool{false, true, true}, 3},
		{[]bool{true, false, true}, 3},
		{[]bool{false, false, false, true}, 4},
		{[]bool{true, true, true}, 3},
		{[]bool{true, true, true, true}, 4},
		{[]bool{true, false, true, true, false}, 4},
		{[]bool{true, false, false, false, false, true, true}, 2},
		{[]bool{true, true, true, true, false, true}, 4},
	} {
		p.refused = c.refused
		nextIs(t, p, c.want)
	}
	for _, refused := range [][]bool{{true, true, true, true, true}, {true, true, true, true, true, false}, {false, true, true, true, true}, {true, false, true, true, true}} {
		p.refused = refused
		nextNone(t, p)
	}
}

// P17.2: from behind the head one starts that ends no later than its Shadow; not one that ends a tick later.
func TestShortOnes(t *testing.T) {
	for now := range 6 {
		p := plan{now: now, total: 4, running: []api.Busy{{End: 6, Nodes: 1}}}
		p.queue = []api.Ask{{Nodes: 4, Wall: 9}, {Nodes: 3, Wall: 6 - now}}
		nextIs(t, p, 1)
		p.queue[1].Wall++
		nextNone(t, p)
		p.queue[1].Wall = 0
		nextIs(t, p, 1)
		p.queue[1].Nodes = 4
		nextNone(t, p)
	}
	at := lastEnd - lastNow
	p := plan{now: lastNow, total: mostNodes, running: []api.Busy{{End: lastEnd, Nodes: 1}}}
	p.queue = []api.Ask{{Nodes: mostNodes}, {Nodes: mostNodes - 1, Wall: at}}
	nextIs(t, p, 1)
	p.running[0].End--
	nextNone(t, p)
}

// P17.2: from behind the head one starts, however long, that needs no more than is left beside the head then; not one of a node more.
func TestNarrowOnes(t *testing.T) {
	running := []api.Busy{{End: 6, Nodes: 4}, {End: 9, Nodes: 1}}
	for extra := range 4 {
		p := plan{total: 9, running: running, queue: []api.Ask{{Nodes: 8 - extra, Wall: 2}, {Nodes: extra, Wall: 7}}}
		shadowIs(t, 0, 9, running, 8-extra, 6, extra)
		nextIs(t, p, 1)
		p.queue[1].Wall = lastNow
		nextIs(t, p, 1)
		p.queue[1].Nodes++
		nextNone(t, p)
		p.queue[1].Wall = 6
		nextIs(t, p, 1)
	}
	p := plan{total: 9, running: running, queue: []api.Ask{{Nodes: 9, Wall: 1}, {Nodes: 0, Wall: lastNow}}}
	nextIs(t, p, 1)
}

// P17.2: from behind the head nobody starts whose Nodes are not free now, however short and narrow.
func TestNotFreeNow(t *testing.T) {
	p := plan{total: 9, running: []api.Busy{{End: 6, Nodes: 8}}, queue: []api.Ask{{Nodes: 2, Wall: 9}, {Nodes: 2, Wall: 0}, {Nodes: 7, Wall: 1}}}
	shadowIs(t, 0, 9, p.running, 2, 6, 7)
	nextNone(t, p)
	p.queue = append(p.queue, api.Ask{Nodes: 1, Wall: 99})
	nextIs(t, p, 3)
}

// P17.2: of several the first one starts, be another one shorter or narrower.
func TestFirstOfSeveral(t *testing.T) {
	p := plan{total: 8, running: []api.Busy{{End: 5, Nodes: 3}}}
	p.queue = []api.Ask{{Nodes: 6, Wall: 9}, {Nodes: 2, Wall: 99}, {Nodes: 1, Wall: 1}, {Nodes: 5, Wall: 5}}
	nextIs(t, p, 1)
	p.queue = []api.Ask{{Nodes: 6, Wall: 9}, {Nodes: 3, Wall: 6}, {Nodes: 5, Wall: 5}, {Nodes: 1, Wall: 1}, {Nodes: 2, Wall: 99}}
	nextIs(t, p, 2)
	p.queue = []api.Ask{{Nodes: 6, Wall: 9}, {Nodes: 3, Wall: 6}, {Nodes: 6, Wall: 1}, {Nodes: 2, Wall: 99}}
	nextIs(t, p, 3)
}

// P17.2: it is the first one that counts that is the head, not the greatest one, nor one that could start.
func TestOneHead(t *testing.T) {
	p := plan{total: 8, running: []api.Busy{{End: 5, Nodes: 3}, {End: 9, Nodes: 2}}}
	p.queue = []api.Ask{{Nodes: 4, Wall: 9}, {Nodes: 8, Wall: 9}, {Nodes: 2, Wall: 99}}
	nextIs(t, p, 2)
	p.queue = []api.Ask{{Nodes: 8, Wall: 9}, {Nodes: 4, Wall: 9}, {Nodes: 3, Wall: 9}}
	nextIs(t, p, 2)
	p.queue = []api.Ask{{Nodes: 6, Wall: 9}, {Nodes: 4, Wall: 9}, {Nodes: 3, Wall: 6}}
	nextNone(t, p)
}

// P17.2: as many as there may be, the last one alone of which may start.
func TestLongQueue(t *testing.T) {
	p := plan{total: mostNodes, running: slices.Repeat([]api.Busy{{End: 9, Nodes: 1}}, most)}
	p.queue = slices.Repeat([]api.Ask{{Nodes: mostNodes, Wall: 1}}, most)
	nextNone(t, p)
	p.queue[most-1] = api.Ask{Nodes: mostNodes - most, Wall: 9}
	nextIs(t, p, most-1)
	p.queue[most-1].Nodes++
	nextNone(t, p)
	p.refused = slices.Repeat([]bool{true}, most-1)
	nextNone(t, p)
	p.queue[most-1].Nodes--
	nextIs(t, p, most-1)
	p.refused = append(p.refused, true)
	nextNone(t, p)
}

// R1: every call answers, whatever it is given, also that of which the chapter does not speak.
func TestAnyArgument(t *testing.T) {
	ends := []int{math.MinInt, -1, 0, 1, math.MaxInt}
	for _, now := range ends {
		for _, total := range ends {
			for _, nodes := range ends {
				for _, end := range ends {
					running := []api.Busy{{End: end, Nodes: nodes}, {End: nodes, Nodes: end}}
					queue := []api.Ask{{Nodes: total, Wall: end}, {Nodes: nodes, Wall: now}, {Nodes: end, Wall: nodes}}
					if at, extra, ok := easy.Shadow(now, total, running, nodes); !ok && (at != 0 || extra != 0) {
						t.Error(now, total, running, nodes, at, extra)
					}
					for _, refused := range [][]bool{nil, {true}, {false, true, true, true}} {
						if place, ok := easy.Next(now, total, running, queue, refused); place < 0 || place > 2 || !ok && place != 0 {
							t.Error(now, total, running, queue, refused, place, ok)
						}
					}
				}
			}
		}
	}
}

// R4, R5: what is handed in stays as it is, its spare room too, and the same calls answer the same.
func TestNothingIsChanged(t *testing.T) {
	running := []api.Busy{{End: 9, Nodes: 1}, {End: 5, Nodes: 1}, {End: 7, Nodes: 1}, {End: 77, Nodes: 77}, {End: 78, Nodes: 78}}
	queue := []api.Ask{{Nodes: 4, Wall: 9}, {Nodes: 3, Wall: 9}, {Nodes: 1, Wall: 7}, {Nodes: 77, Wall: 77}, {Nodes: 78, Wall: 78}}
	refused := []bool{false, true, false, true, true}
	kept := plan{running: slices.Clone(running), queue: slices.Clone(queue), refused: slices.Clone(refused)}
	for range 3 {
		shadowIs(t, 2, 4, running[:3], 3, 7, 0)
		nextIs(t, plan{now: 2, total: 4, running: running[:3], queue: queue[:3], refused: refused[:1]}, 2)
		nextNone(t, plan{now: 2, total: 4, running: running[:3], queue: queue[:2], refused: refused[:2]})
		nextIs(t, plan{now: 8, total: 4, running: running[:3], queue: queue[:3], refused: refused[3:4]}, 1)
		if !slices.Equal(running, kept.running) || !slices.Equal(queue, kept.queue) || !slices.Equal(refused, kept.refused) {
			t.Fatal(running, queue, refused)
		}
	}
}

// P17.1: all lists of up to 3 that run, of small ends and nodes.
func TestAllSmallShadows(t *testing.T) {
	for count := range 4 {
		for code := range []int{1, 15, 15 * 15, 15 * 15 * 15}[count] {
			var running []api.Busy
			for range count {
				running = append(running, api.Busy{End: code % 5, Nodes: code % 15 / 5})
				code /= 15
			}
			for now := range 5 {
				for nodes := range 4 {
					sameShadow(t, now, 2, running, nodes)
					sameShadow(t, now, 3, running, nodes)
				}
			}
		}
	}
}

// P17.2, P17.3: all queues of 3 of small nodes and walls, refused or not, behind a few that run.
func TestAllSmallQueues(t *testing.T) {
	lists := [][]api.Busy{nil, {{End: 2, Nodes: 2}}, {{End: 1, Nodes: 1}, {End: 3, Nodes: 1}}, {{End: 3, Nodes: 1}, {End: 2, Nodes: 1}, {End: 2, Nodes: 1}}}
	for _, running := range lists {
		for code := range 20 * 20 * 20 {
			var queue []api.Ask
			for k := code; len(queue) < 3; k /= 20 {
				queue = append(queue, api.Ask{Nodes: k % 5, Wall: k % 20 / 5})
			}
			for _, refused := range [][]bool{nil, {true}, {false, true}} {
				for now := range 2 {
					sameNext(t, plan{now: now, total: 3, running: running, queue: queue, refused: refused})
				}
			}
		}
	}
}

// small: a plan of small numbers.
func small(r *rand.Rand) plan {
	p := plan{now: r.Intn(10), total: r.Intn(12)}
	for range r.Intn(6) {
		p.running = append(p.running, api.Busy{End: r.Intn(25), Nodes: r.Intn(5)})
	}
	for range r.Intn(12) {
		p.queue = append(p.queue, api.Ask{Nodes: r.Intn(13), Wall: r.Intn(12)})
	}
	for range r.Intn(14) {
		p.refused = append(p.refused, r.Intn(4) == 0)
	}
	return p
}

// P17.1, P17.2, P17.3: held against the words, and enough of each kind.
func TestAtRandom(t *testing.T) {
	r := rand.New(rand.NewSource(17))
	enough := map[string]int{}
	for range 30000 {
		p := small(r)
		sameShadow(t, p.now, p.total, p.running, r.Intn(13))
		sameNext(t, p)
		place, ok := p.next()
		switch {
		case !ok && p.head() < 0:
			enough["nobody counts"]++
		case !ok:
			enough["nobody may"]++
		case place == p.head():
			enough["head"]++
		default:
			enough["behind"]++
		}
	}
	for _, kind := range []string{"nobody counts", "nobody may", "head", "behind"} {
		if enough[kind] < 2000 {
			t.Error("too few of a kind", enough)
		}
	}
}

// P17.3: one after the other starts till nobody may; the head's tick stays, whoever starts ahead of it, and it starts then at the latest.
func TestHeadIsNotHeldUp(t *testing.T) {
	r := rand.New(rand.NewSource(173))
	started := 0
	for range 10000 {
		p := small(r)
		p.refused = nil
		head := p.head()
		if head < 0 || p.queue[head].Nodes <= free(p.total, p.running, p.now) {
			continue
		}
		want := p.queue[head]
		at, _, _ := easy.Shadow(p.now, p.total, p.running, want.Nodes)
		for ; p.now < at; p.now++ {
			for place, ok := p.next(); ok; place, ok = p.next() {
				if place <= head {
					t.Fatalf("of %+v the one at %d starts", p, place)
				}
				p.running = p.with(place)
				p.queue = slices.Delete(p.queue, place, place+1)
				started++
				if then, _, ok := easy.Shadow(p.now, p.total, p.running, want.Nodes); then != at || !ok {
					t.Fatalf("of %+v the head's tick is %d, %v; it was %d", p, then, ok, at)
				}
			}
		}
		nextIs(t, p, head)
	}
	if started < 2000 {
		t.Error("too few started", started)
	}
}

// P17.1, P17.2: what holds of small ticks holds of great ones.
func TestGreatTicks(t *testing.T) {
	r := rand.New(rand.NewSource(71))
	for range 10000 {
		by := 1 + r.Intn(1<<45)
		p := small(r)
		great := p
		great.now *= by
		great.running, great.queue = slices.Clone(p.running), slices.Clone(p.queue)
		for k := range great.running {
			great.running[k].End *= by
		}
		for k := range great.queue {
			great.queue[k].Wall *= by
		}
		nodes := r.Intn(13)
		if at := shadow(p.now, p.total, p.running, nodes); at >= 0 {
			shadowIs(t, great.now, great.total, great.running, nodes, at*by, free(p.total, p.running, at)-nodes)
		} else {
			shadowNone(t, great.now, great.total, great.running, nodes)
		}
		if place := p.starts(); place >= 0 {
			nextIs(t, great, place)
		} else {
			nextNone(t, great)
		}
	}
}

// P17.1, P17.2, P17.3: held against the words.
func FuzzEasy(f *testing.F) {
	f.Add([]byte{5, 3}, []byte{2, 9, 0, 1, 5, 0, 1, 9, 0}, 0, 4, 2)
	f.Add([]byte{5, 3, 9, 2, 0, 31}, []byte{6, 31, 0, 3, 6, 0, 1, 6, 1}, 3, 8, 7)
	f.Add([]byte{}, []byte{}, 0, 0, 0)
	f.Fuzz(func(t *testing.T, busy, asks []byte, now, total, nodes int) {
		p := plan{now: now & 31, total: total & 31}
		for ; len(busy) >= 2 && len(p.running) < 100; busy = busy[2:] {
			p.running = append(p.running, api.Busy{End: int(busy[0] & 63), Nodes: int(busy[1] & 15)})
		}
		for ; len(asks) >= 3 && len(p.queue) < 100; asks = asks[3:] {
			p.queue = append(p.queue, api.Ask{Nodes: int(asks[0] & 31), Wall: int(asks[1] & 63)})
			// A mark in the third byte's second bit leaves a shorter list of who is refused.
			if len(p.refused) == len(p.queue)-1 && asks[2]&2 == 0 {
				p.refused = append(p.refused, asks[2]&1 == 1)
			}
		}
		sameShadow(t, p.now, p.total, p.running, nodes&63)
		sameNext(t, p)
	})
}
