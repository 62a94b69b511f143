package profile_test

import (
	"math"
	"math/rand"
	"slices"
	"testing"

	"prebend/api"
	"prebend/profile"
)

const (
	lastTick  = 1 << 50
	mostNodes = 1 << 20
	mostSteps = 1000
)

// newIs: New answers these steps.
func newIs(t *testing.T, now, total int, list []api.Busy, want ...api.Step) {
	t.Helper()
	if p := profile.New(now, total, list); !slices.Equal(p, want) {
		t.Errorf("New(%d, %d, %v) is %v; it should be %v", now, total, list, p, want)
	}
}

// atIs: At answers that.
func atIs(t *testing.T, p []api.Step, tick, want int) {
	t.Helper()
	if n := profile.At(p, tick); n != want {
		t.Errorf("At(%v, %d) is %d; it should be %d", p, tick, n, want)
	}
}

// fitIs: Fit answers that tick.
func fitIs(t *testing.T, p []api.Step, nodes, long, want int) {
	t.Helper()
	if at, ok := profile.Fit(p, nodes, long); at != want || !ok {
		t.Errorf("Fit(%v, %d, %d) is %d, %v; it should be %d, true", p, nodes, long, at, ok, want)
	}
}

// fitNone: Fit answers false, and nothing else.
func fitNone(t *testing.T, p []api.Step, nodes, long int) {
	t.Helper()
	if at, ok := profile.Fit(p, nodes, long); at != 0 || ok {
		t.Errorf("Fit(%v, %d, %d) is %d, %v; it should be 0, false", p, nodes, long, at, ok)
	}
}

// takeIs: Take answers these steps.
func takeIs(t *testing.T, p []api.Step, at, long, nodes int, want ...api.Step) {
	t.Helper()
	if q := profile.Take(p, at, long, nodes); !slices.Equal(q, want) {
		t.Errorf("Take(%v, %d, %d, %d) is %v; it should be %v", p, at, long, nodes, q, want)
	}
}

// isProfile: do ticks rise, and differ those that are free in steps beside one another?
func isProfile(p []api.Step) bool {
	for k := 1; k < len(p); k++ {
		if p[k-1].At >= p[k].At || p[k-1].Free == p[k].Free {
			return false
		}
	}
	return true
}

// free: by the words, how many are free at a tick; the step from whose At on, up to that of the next one, it lies.
func free(p []api.Step, tick int) int {
	for k, s := range p {
		if tick >= s.At && (k+1 == len(p) || tick < p[k+1].At) {
			return s.Free
		}
	}
	return 0
}

// freeOf: by the words, how many are free at a tick of what is busy.
func freeOf(total int, list []api.Busy, tick int) int {
	for _, b := range list {
		if b.End > tick {
			total -= b.Nodes
		}
	}
	return total
}

// byTicks: the profile whose ticks from first up to one behind last have these free, tick for tick.
func byTicks(first, last int, at func(tick int) int) []api.Step {
	var p []api.Step
	for tick := first; tick <= last; tick++ {
		if tick == first || at(tick) != at(tick-1) {
			p = append(p, api.Step{At: tick, Free: at(tick)})
		}
	}
	return p
}

// behind: a small tick from which on nothing changes any more.
func behind(p []api.Step, more ...int) int {
	end := 0
	for _, s := range p {
		end = max(end, s.At)
	}
	return max(end, slices.Max(append(more, 0))) + 1
}

// sameNew: New of small ticks answers what the words say.
func sameNew(t *testing.T, now, total int, list []api.Busy) {
	t.Helper()
	last := now + 1
	for _, b := range list {
		last = max(last, b.End+1)
	}
	newIs(t, now, total, list, byTicks(now, last, func(tick int) int { return freeOf(total, list, tick) })...)
}

// sameAt: At answers what the words say, at all ticks around a profile of small ones.
func sameAt(t *testing.T, p []api.Step) {
	t.Helper()
	for tick := range behind(p) + 2 {
		atIs(t, p, tick, free(p, tick))
	}
}

// sameFit: Fit of small ticks answers what the words say.
func sameFit(t *testing.T, p []api.Step, nodes, long int) {
	t.Helper()
	if len(p) == 0 {
		fitNone(t, p, nodes, long)
		return
	}
	end := behind(p)
	for start := p[0].At; start <= end; start++ {
		enough := true
		for tick := start; tick < start+max(long, 1); tick++ {
			enough = enough && free(p, tick) >= nodes
		}
		if enough {
			fitIs(t, p, nodes, long, start)
			return
		}
	}
	fitNone(t, p, nodes, long)
}

// sameTake: Take of small ticks answers what the words say.
func sameTake(t *testing.T, p []api.Step, at, long, nodes int) {
	t.Helper()
	if len(p) == 0 {
		takeIs(t, p, at, long, nodes)
		return
	}
	takeIs(t, p, at, long, nodes, byTicks(p[0].At, behind(p, at, at+long), func(tick int) int {
		if at <= tick && tick < at+long {
			return free(p, tick) - nodes
		}
		return free(p, tick)
	})...)
}

// P16.1, P16.2: the chapter's examples.
func TestExamples(t *testing.T) {
	p := []api.Step{{At: 0, Free: 1}, {At: 5, Free: 4}}
	newIs(t, 0, 4, []api.Busy{{End: 5, Nodes: 3}}, p...)
	fitIs(t, p, 2, 9, 5)
	takeIs(t, p, 0, 5, 1, api.Step{At: 0, Free: 0}, api.Step{At: 5, Free: 4})
}

// P16.1: of nothing that is busy, all are free, from now on.
func TestNewOfNone(t *testing.T) {
	newIs(t, 0, 0, nil, api.Step{})
	newIs(t, 7, 4, nil, api.Step{At: 7, Free: 4})
	newIs(t, lastTick, mostNodes, []api.Busy{}, api.Step{At: lastTick, Free: mostNodes})
}

// P16.1: what ends now, or has ended, is free; what ends a tick later is not.
func TestNewEnds(t *testing.T) {
	newIs(t, 5, 4, []api.Busy{{End: 4, Nodes: 1}}, api.Step{At: 5, Free: 4})
	newIs(t, 5, 4, []api.Busy{{End: 5, Nodes: 1}}, api.Step{At: 5, Free: 4})
	newIs(t, 5, 4, []api.Busy{{End: 6, Nodes: 1}}, api.Step{At: 5, Free: 3}, api.Step{At: 6, Free: 4})
	newIs(t, 5, 4, []api.Busy{{End: 0, Nodes: 4}}, api.Step{At: 5, Free: 4})
	newIs(t, 0, 4, []api.Busy{{End: 0, Nodes: 4}}, api.Step{At: 0, Free: 4})
	newIs(t, 0, 4, []api.Busy{{End: 1, Nodes: 4}}, api.Step{At: 0, Free: 0}, api.Step{At: 1, Free: 4})
	newIs(t, lastTick-1, 4, []api.Busy{{End: lastTick, Nodes: 1}}, api.Step{At: lastTick - 1, Free: 3}, api.Step{At: lastTick, Free: 4})
	newIs(t, lastTick, 4, []api.Busy{{End: lastTick, Nodes: 1}}, api.Step{At: lastTick, Free: 4})
	newIs(t, 0, mostNodes, []api.Busy{{End: lastTick, Nodes: mostNodes}}, api.Step{At: 0, Free: 0}, api.Step{At: lastTick, Free: mostNodes})
}

// P16.1: those that end at once are one step, in whatever order they come, and those of no nodes are none.
func TestNewOfMany(t *testing.T) {
	newIs(t, 0, 9, []api.Busy{{End: 8, Nodes: 2}, {End: 3, Nodes: 1}, {End: 8, Nodes: 1}, {End: 6, Nodes: 4}},
		api.Step{At: 0, Free: 1}, api.Step{At: 3, Free: 2}, api.Step{At: 6, Free: 6}, api.Step{At: 8, Free: 9})
	newIs(t, 0, 9, []api.Busy{{End: 8, Nodes: 0}, {End: 3, Nodes: 1}, {End: 2, Nodes: 0}}, api.Step{At: 0, Free: 8}, api.Step{At: 3, Free: 9})
	newIs(t, 1, 9, []api.Busy{{End: 8, Nodes: 0}}, api.Step{At: 1, Free: 9})
	newIs(t, 4, 9, []api.Busy{{End: 6, Nodes: 5}, {End: 4, Nodes: 5}, {End: 2, Nodes: 3}}, api.Step{At: 4, Free: 4}, api.Step{At: 6, Free: 9})
}

// P16.1: more may be busy than there are: then what is free is below 0.
func TestNewBelowNone(t *testing.T) {
	newIs(t, 0, 2, []api.Busy{{End: 3, Nodes: 2}, {End: 4, Nodes: 3}}, api.Step{At: 0, Free: -3}, api.Step{At: 3, Free: -1}, api.Step{At: 4, Free: 2})
	newIs(t, 0, 0, []api.Busy{{End: 1, Nodes: mostNodes}}, api.Step{At: 0, Free: -mostNodes}, api.Step{At: 1, Free: 0})
	list := slices.Repeat([]api.Busy{{End: lastTick, Nodes: mostNodes}}, mostSteps)
	newIs(t, 0, 0, list, api.Step{At: 0, Free: -mostSteps * mostNodes}, api.Step{At: lastTick, Free: 0})
	slices.Reverse(list)
	for k := range list {
		list[k].End = mostSteps - k
	}
	p := profile.New(0, 5, list)
	if len(p) != mostSteps+1 || !isProfile(p) {
		t.Fatal(len(p), p)
	}
	for k, s := range p {
		if s.At != k || s.Free != 5-(mostSteps-k)*mostNodes {
			t.Fatal(k, s)
		}
	}
}

// P16.1: ahead of the first step, and of no steps, nothing is free; from the last one's on, what it says.
func TestAt(t *testing.T) {
	p := []api.Step{{At: 3, Free: 7}, {At: 4, Free: -2}, {At: 9, Free: 5}}
	for tick, want := range []int{0, 0, 0, 7, -2, -2, -2, -2, -2, 5, 5} {
		atIs(t, p, tick, want)
	}
	atIs(t, p, lastTick, 5)
	atIs(t, p[:1], 2, 0)
	atIs(t, p[:1], 3, 7)
	atIs(t, p[:1], lastTick, 7)
	for _, tick := range []int{0, 1, lastTick} {
		atIs(t, nil, tick, 0)
		atIs(t, []api.Step{}, tick, 0)
	}
	atIs(t, []api.Step{{At: 0, Free: 3}}, 0, 3)
	atIs(t, []api.Step{{At: lastTick, Free: 3}}, lastTick-1, 0)
	atIs(t, []api.Step{{At: lastTick, Free: 3}}, lastTick, 3)
}

// P16.2: what fits just so, and what lacks a node or a tick.
func TestFit(t *testing.T) {
	p := []api.Step{{At: 2, Free: 3}, {At: 5, Free: 1}, {At: 7, Free: 4}, {At: 8, Free: 5}, {At: 12, Free: 2}}
	fitIs(t, p, 3, 3, 2)
	fitIs(t, p, 3, 4, 7)
	fitIs(t, p, 3, 5, 7)
	fitNone(t, p, 3, 6)
	fitIs(t, p, 4, 1, 7)
	fitIs(t, p, 4, 5, 7)
	fitNone(t, p, 4, 6)
	fitIs(t, p, 5, 4, 8)
	fitNone(t, p, 5, 5)
	fitNone(t, p, 6, 1)
	fitIs(t, p, 2, 3, 2)
	fitIs(t, p, 2, 4, 7)
	fitIs(t, p, 2, lastTick, 7)
	fitIs(t, p, 1, lastTick, 2)
	fitIs(t, p, 0, lastTick, 2)
}

// P16.2: of a long below 1, a tick is meant.
func TestFitOfShort(t *testing.T) {
	p := []api.Step{{At: 2, Free: 0}, {At: 3, Free: 2}, {At: 4, Free: 1}}
	for _, long := range []int{1, 0, -1, -2, -lastTick, math.MinInt} {
		fitIs(t, p, 0, long, 2)
		fitIs(t, p, 1, long, 3)
		fitIs(t, p, 2, long, 3)
		fitNone(t, p, 3, long)
	}
	fitNone(t, p, 2, 2)
}

// P16.2: nothing fits into no steps; no nodes do not fit where fewer are free.
func TestFitOfNone(t *testing.T) {
	for _, long := range []int{-1, 0, 1, lastTick} {
		fitNone(t, nil, 0, long)
		fitNone(t, []api.Step{}, 0, long)
		fitNone(t, nil, mostNodes, long)
	}
	p := []api.Step{{At: 0, Free: -1}, {At: 5, Free: 0}, {At: 6, Free: -3}}
	fitIs(t, p, 0, 1, 5)
	fitNone(t, p, 0, 2)
	fitNone(t, p, 1, 1)
	fitIs(t, p[:2], 0, lastTick, 5)
	fitNone(t, p[:1], 0, 0)
	fitNone(t, []api.Step{{At: 9, Free: -1}}, 0, 1)
}

// P16.2: numbers at their ends fit too.
func TestFitAtTheEnds(t *testing.T) {
	p := []api.Step{{At: 0, Free: mostNodes}, {At: lastTick, Free: mostNodes - 1}}
	fitIs(t, p, mostNodes, 1, 0)
	fitIs(t, p, mostNodes, lastTick, 0)
	fitIs(t, p, mostNodes-1, lastTick, 0)
	p = []api.Step{{At: 1, Free: mostNodes}, {At: lastTick, Free: 0}}
	fitIs(t, p, mostNodes, lastTick-1, 1)
	fitNone(t, p, mostNodes, lastTick)
	p = []api.Step{{At: 0, Free: 0}, {At: lastTick, Free: mostNodes}}
	fitIs(t, p, mostNodes, lastTick, lastTick)
	fitIs(t, p, 0, lastTick, 0)
}

// P16.2: what is taken within a step, over several, up to a step, and behind the last one.
func TestTake(t *testing.T) {
	p := []api.Step{{At: 2, Free: 3}, {At: 5, Free: 1}, {At: 9, Free: 4}}
	takeIs(t, p, 3, 1, 1, api.Step{At: 2, Free: 3}, api.Step{At: 3, Free: 2}, api.Step{At: 4, Free: 3}, api.Step{At: 5, Free: 1}, api.Step{At: 9, Free: 4})
	takeIs(t, p, 3, 7, 1, api.Step{At: 2, Free: 3}, api.Step{At: 3, Free: 2}, api.Step{At: 5, Free: 0}, api.Step{At: 9, Free: 3}, api.Step{At: 10, Free: 4})
	takeIs(t, p, 2, 7, 1, api.Step{At: 2, Free: 2}, api.Step{At: 5, Free: 0}, api.Step{At: 9, Free: 4})
	takeIs(t, p, 5, 4, 3, api.Step{At: 2, Free: 3}, api.Step{At: 5, Free: -2}, api.Step{At: 9, Free: 4})
	takeIs(t, p, 20, 2, 4, api.Step{At: 2, Free: 3}, api.Step{At: 5, Free: 1}, api.Step{At: 9, Free: 4}, api.Step{At: 20, Free: 0}, api.Step{At: 22, Free: 4})
	takeIs(t, p[:1], 2, 5, 3, api.Step{At: 2, Free: 0}, api.Step{At: 7, Free: 3})
}

// P16.2: where steps beside one another come to have the same, they are one.
func TestTakeJoins(t *testing.T) {
	p := []api.Step{{At: 2, Free: 3}, {At: 5, Free: 1}, {At: 9, Free: 4}}
	takeIs(t, p, 2, 3, 2, api.Step{At: 2, Free: 1}, api.Step{At: 9, Free: 4})
	takeIs(t, p, 3, 2, 2, api.Step{At: 2, Free: 3}, api.Step{At: 3, Free: 1}, api.Step{At: 9, Free: 4})
	takeIs(t, p, 9, 5, 3, api.Step{At: 2, Free: 3}, api.Step{At: 5, Free: 1}, api.Step{At: 14, Free: 4})
	p = []api.Step{{At: 0, Free: 4}, {At: 5, Free: 6}, {At: 8, Free: 4}}
	takeIs(t, p, 5, 3, 2, api.Step{At: 0, Free: 4})
}

// P16.2: ahead of p's first tick nothing is taken, and the profile does not begin earlier.
func TestTakeAhead(t *testing.T) {
	p := []api.Step{{At: 10, Free: 3}, {At: 12, Free: 5}}
	takeIs(t, p, 0, 9, 1, p...)
	takeIs(t, p, 0, 10, 1, p...)
	takeIs(t, p, 0, 11, 1, api.Step{At: 10, Free: 2}, api.Step{At: 11, Free: 3}, api.Step{At: 12, Free: 5})
	takeIs(t, p, 9, 3, 1, api.Step{At: 10, Free: 2}, api.Step{At: 12, Free: 5})
	takeIs(t, p, 9, 4, 1, api.Step{At: 10, Free: 2}, api.Step{At: 12, Free: 4}, api.Step{At: 13, Free: 5})
	takeIs(t, p, 9, 1, 1, p...)
}

// P16.2: of a long below 1 nothing is taken, nor of no nodes, nor from a p without steps.
func TestTakeNothing(t *testing.T) {
	p := []api.Step{{At: 2, Free: 3}, {At: 5, Free: 1}}
	for _, at := range []int{0, 2, 3, 5, 6, lastTick} {
		for _, long := range []int{0, -1, -2, -4, -lastTick} {
			takeIs(t, p, at, long, 1, p...)
			takeIs(t, p, at, long, mostNodes, p...)
		}
		for _, long := range []int{0, 1, 3, lastTick} {
			takeIs(t, p, at, long, 0, p...)
			takeIs(t, nil, at, long, 1)
			takeIs(t, []api.Step{}, at, long, 1)
		}
	}
}

// P16.2: numbers at their ends are taken too.
func TestTakeAtTheEnds(t *testing.T) {
	takeIs(t, []api.Step{{At: 0, Free: 0}}, 0, lastTick, mostNodes, api.Step{At: 0, Free: -mostNodes}, api.Step{At: lastTick, Free: 0})
	takeIs(t, []api.Step{{At: 0, Free: 1}}, lastTick, lastTick, 1, api.Step{At: 0, Free: 1}, api.Step{At: lastTick, Free: 0}, api.Step{At: 2 * lastTick, Free: 1})
	takeIs(t, []api.Step{{At: lastTick, Free: 1}}, 0, lastTick, 1, api.Step{At: lastTick, Free: 1})
	takeIs(t, []api.Step{{At: lastTick, Free: 1}}, 1, lastTick, 1, api.Step{At: lastTick, Free: 0}, api.Step{At: lastTick + 1, Free: 1})
	takeIs(t, []api.Step{{At: lastTick, Free: 1}}, lastTick, 1, 1, api.Step{At: lastTick, Free: 0}, api.Step{At: lastTick + 1, Free: 1})
	var p []api.Step
	for k := range mostSteps {
		p = append(p, api.Step{At: 2 * k, Free: k % 7})
	}
	q := profile.Take(p, 1, lastTick, mostNodes)
	if len(q) != mostSteps+2 || !isProfile(q) || q[1] != (api.Step{At: 1, Free: -mostNodes}) {
		t.Fatal(len(q), q[:2])
	}
	for k, s := range p[1:] {
		if q[k+2] != (api.Step{At: s.At, Free: s.Free - mostNodes}) {
			t.Fatal(k, q[k+2])
		}
	}
	if q[mostSteps+1] != (api.Step{At: lastTick + 1, Free: p[mostSteps-1].Free}) {
		t.Fatal(q[mostSteps+1])
	}
}

// R1: every call answers, whatever it is given, also that of which the chapter does not speak.
func TestAnyArgument(t *testing.T) {
	ends := []int{math.MinInt, -1, 0, 1, math.MaxInt}
	for _, a := range ends {
		for _, b := range ends {
			for _, c := range ends {
				profile.New(a, b, []api.Busy{{End: c, Nodes: a}, {End: b, Nodes: c}})
				for _, p := range [][]api.Step{nil, {{At: a, Free: b}}, {{At: b, Free: a}, {At: a, Free: c}}, {{At: a, Free: a}, {At: a, Free: a}}} {
					profile.At(p, c)
					profile.Fit(p, b, c)
					profile.Take(p, a, b, c)
				}
			}
		}
	}
}

// R4: what is handed in stays as it is, spare room of its list too.
func TestNothingIsChanged(t *testing.T) {
	list := []api.Busy{{End: 9, Nodes: 1}, {End: 1, Nodes: 1}, {End: 5, Nodes: 1}, {End: 77, Nodes: 77}, {End: 78, Nodes: 78}}
	before := slices.Clone(list)
	newIs(t, 2, 4, list[:3], api.Step{At: 2, Free: 2}, api.Step{At: 5, Free: 3}, api.Step{At: 9, Free: 4})
	if !slices.Equal(list, before) {
		t.Error(list)
	}
	steps := []api.Step{{At: 2, Free: 3}, {At: 5, Free: 1}, {At: 9, Free: 4}, {At: 77, Free: 77}, {At: 78, Free: 78}, {At: 79, Free: 79}}
	kept := slices.Clone(steps)
	for at := range 12 {
		for long := range 12 {
			sameTake(t, steps[:3], at, long, 2)
			sameFit(t, steps[:3], at, long)
		}
		atIs(t, steps[:3], at, free(kept[:3], at))
	}
	if !slices.Equal(steps, kept) {
		t.Error(steps)
	}
}

// R4: answers share nothing with each other, or with what was handed in, spare room included.
func TestAnswersAreNew(t *testing.T) {
	spoil := func(p []api.Step) {
		p = p[:cap(p)]
		for k := range p {
			p[k] = api.Step{At: 77, Free: 77}
		}
	}
	list := []api.Busy{{End: 5, Nodes: 3}}
	p := profile.New(0, 4, list)
	spoil(profile.New(0, 4, list))
	newIs(t, 0, 4, list, p...)
	for _, long := range []int{-1, 0, 1, 5, 9} {
		for _, nodes := range []int{0, 1} {
			spoil(profile.Take(p, 0, long, nodes))
			q := profile.Take(p, 0, long, nodes)
			spoil(profile.Take(p, 0, long, nodes))
			spoil(profile.Take(q, 1, 2, 1))
			takeIs(t, p, 0, long, nodes, q...)
			newIs(t, 0, 4, list, p...)
		}
	}
}

// P16.1: all lists of up to 3 that are busy, of small ends and nodes.
func TestAllSmallLists(t *testing.T) {
	kind := func(k int) api.Busy { return api.Busy{End: k % 5, Nodes: k / 5} }
	for count := range 4 {
		for code := range []int{1, 15, 15 * 15, 15 * 15 * 15}[count] {
			var list []api.Busy
			for range count {
				list = append(list, kind(code%15))
				code /= 15
			}
			for now := range 5 {
				sameNew(t, now, 2, list)
			}
		}
	}
}

// P16.1, P16.2: all profiles of up to 4 small steps, and all that may be asked of them.
func TestAllSmallProfiles(t *testing.T) {
	for code := range 4 * 4 * 4 * 4 {
		var frees []int
		for k := code; len(frees) < 4; k /= 4 {
			frees = append(frees, k%4-1)
		}
		for first := range 3 {
			p := byTicks(first, first+3, func(tick int) int { return frees[tick-first] })
			sameAt(t, p)
			for long := -1; long < 6; long++ {
				for nodes := range 4 {
					sameFit(t, p, nodes, long)
				}
				for at := range 8 {
					sameTake(t, p, at, long, 0)
					sameTake(t, p, at, long, 1)
				}
			}
		}
	}
}

// small: a profile of small ticks.
func small(r *rand.Rand) []api.Step {
	first := r.Intn(10)
	var frees []int
	for range 1 + r.Intn(20) {
		frees = append(frees, r.Intn(7)-2)
	}
	return byTicks(first, first+len(frees)-1, func(tick int) int { return frees[tick-first] })
}

// P16.1, P16.2: small ones, one out of another.
func TestAtRandom(t *testing.T) {
	r := rand.New(rand.NewSource(16))
	enough := map[bool]int{}
	for range 2000 {
		var list []api.Busy
		for range r.Intn(12) {
			list = append(list, api.Busy{End: r.Intn(30), Nodes: r.Intn(4)})
		}
		now, total := r.Intn(20), r.Intn(12)
		sameNew(t, now, total, list)
		p := profile.New(now, total, list)
		if r.Intn(2) == 0 {
			p = small(r)
		}
		for range 6 {
			sameAt(t, p)
			nodes, long := r.Intn(6), r.Intn(12)-1
			sameFit(t, p, nodes, long)
			_, ok := profile.Fit(p, nodes, long)
			enough[ok]++
			at := r.Intn(40)
			sameTake(t, p, at, long, nodes)
			p = profile.Take(p, at, long, nodes)
		}
	}
	if enough[true] < 2000 || enough[false] < 2000 {
		t.Error("too few of a kind", enough)
	}
}

// grown: a profile whose ticks are so many times as great.
func grown(p []api.Step, by int) []api.Step {
	q := slices.Clone(p)
	for k := range q {
		q[k].At *= by
	}
	return q
}

// P16.1, P16.2: what holds of small ticks holds of great ones.
func TestGreatTicks(t *testing.T) {
	r := rand.New(rand.NewSource(61))
	for range 3000 {
		by := 1 + r.Intn(1<<44)
		p := small(r)
		great := grown(p, by)
		var list, greatList []api.Busy
		for range r.Intn(12) {
			b := api.Busy{End: r.Intn(60), Nodes: r.Intn(mostNodes + 1)}
			list = append(list, b)
			greatList = append(greatList, api.Busy{End: b.End * by, Nodes: b.Nodes})
		}
		now, at, long, nodes := r.Intn(60), r.Intn(40), r.Intn(12)-1, r.Intn(6)
		newIs(t, now*by, mostNodes, greatList, grown(profile.New(now, mostNodes, list), by)...)
		takeIs(t, great, at*by, long*by, nodes, grown(profile.Take(p, at, long, nodes), by)...)
		atIs(t, great, at*by, free(p, at))
		atIs(t, great, at*by+by-1, free(p, at))
		if start, ok := profile.Fit(p, nodes, long); ok {
			fitIs(t, great, nodes, long*by, start*by)
		} else {
			fitNone(t, great, nodes, long*by)
		}
	}
}

// P16.2: what Fit finds can be taken, and nothing falls below 0 that was not; and it can not be had a tick earlier.
func TestFitThenTake(t *testing.T) {
	r := rand.New(rand.NewSource(62))
	for range 3000 {
		p := small(r)
		nodes, long := 1+r.Intn(4), 1+r.Intn(9)
		start, ok := profile.Fit(p, nodes, long)
		if !ok {
			continue
		}
		q := profile.Take(p, start, long, nodes)
		for tick := start; tick < start+long; tick++ {
			if left := profile.At(q, tick); left < 0 || left != profile.At(p, tick)-nodes {
				t.Fatal(p, nodes, long, start, q)
			}
		}
		if start > p[0].At && !slices.ContainsFunc(byTicks(start-1, start+long-2, func(tick int) int { return free(p, tick) }), func(s api.Step) bool { return s.Free < nodes }) {
			t.Fatal(p, nodes, long, start)
		}
	}
}

// P16.1, P16.2: held against the words.
func FuzzProfile(f *testing.F) {
	f.Add([]byte{5, 3}, 0, 4, 2, 9, 0)
	f.Add([]byte{9, 3, 5, 2, 2, 7, 9, 1, 6, 0}, 2, 8, 3, 2, 5)
	f.Add([]byte{}, 0, 0, 0, 0, 0)
	f.Fuzz(func(t *testing.T, data []byte, now, total, nodes, long, at int) {
		now, total, nodes, long, at = now&63, total&31, nodes&15, long&63-2, at&63
		var list []api.Busy
		for ; len(data) >= 2 && len(list) < mostSteps; data = data[2:] {
			list = append(list, api.Busy{End: int(data[0] & 63), Nodes: int(data[1] & 15)})
		}
		sameNew(t, now, total, list)
		p := profile.New(now, total, list)
		sameAt(t, p)
		sameFit(t, p, nodes, long)
		sameTake(t, p, at, long, nodes)
		p = profile.Take(p, at, long, nodes)
		sameAt(t, p)
		sameFit(t, p, nodes, long)
		sameTake(t, p, at/2, long, nodes)
	})
}
