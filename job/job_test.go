package job_test

import (
	"math"
	"math/rand"
	"reflect"
	"slices"
	"testing"

	"prebend/api"
	"prebend/job"
)

const (
	last    = 1 << 40
	longest = 1 << 20
	far     = 1 << 50
)

func TestLimits(t *testing.T) {
	if api.Queued != 1 || api.Held != 2 || api.Running != 3 || api.Done != 4 {
		t.Error(api.Queued, api.Held, api.Running, api.Done)
	}
	if api.MaxFunds != 8 || api.MaxNodes != 32 || api.MaxWall != longest || api.MaxQoS != 8 || api.MaxPrio != 1<<20 {
		t.Error(api.MaxFunds, api.MaxNodes, api.MaxWall, api.MaxQoS, api.MaxPrio)
	}
	if api.MaxTime != last || api.MaxAllocs != 16 || api.MaxAmount != 1<<60 {
		t.Error(api.MaxTime, api.MaxAllocs, api.MaxAmount)
	}
}

// queued, held, run, done: a job of each state that may be.
func queued() api.Job {
	return api.Job{ID: 1, Nodes: 3, Wall: 10, State: api.Queued}
}

func held() api.Job {
	return api.Job{ID: 2, Fund: 7, Nodes: 1, Wall: 1, QoS: 7, Prio: 9, Price: 2, State: api.Held}
}

func run() api.Job {
	return api.Job{ID: 3, Fund: 1, Nodes: 3, Wall: 10, Price: 2, State: api.Running, Start: 5, Mask: 13, Draws: []api.Draw{{Alloc: 2, Amount: 40}, {Alloc: 0, Amount: 20}}}
}

func done() api.Job {
	return api.Job{ID: 4, Nodes: 3, Wall: 10, Price: 2, State: api.Done, Start: 5, Used: 4, Draws: []api.Draw{{Alloc: 2, Amount: 24}}}
}

// four: one of each state.
func four() []api.Job { return []api.Job{queued(), held(), run(), done()} }

// goodIs: Good answers that.
func goodIs(t *testing.T, j api.Job, want bool) {
	t.Helper()
	if job.Good(j) != want {
		t.Errorf("Good(%+v) is %v; it should be %v", j, !want, want)
	}
}

// findIs, maskIs, busyIs, boxesAre, dueIs: the calls answer these.
func findIs(t *testing.T, jobs []api.Job, id, want int) {
	t.Helper()
	if place := job.Find(jobs, id); place != want {
		t.Errorf("Find(%+v, %d) is %d; it should be %d", jobs, id, place, want)
	}
}

func maskIs(t *testing.T, jobs []api.Job, want int) {
	t.Helper()
	if mask := job.Mask(jobs); mask != want {
		t.Errorf("Mask(%+v) is %b; it should be %b", jobs, mask, want)
	}
}

func busyIs(t *testing.T, jobs []api.Job, want ...api.Busy) {
	t.Helper()
	if busy := job.Busy(jobs); !slices.Equal(busy, want) {
		t.Errorf("Busy(%+v) is %v; it should be %v", jobs, busy, want)
	}
}

func boxesAre(t *testing.T, jobs []api.Job, want ...api.Box) {
	t.Helper()
	if boxes := job.Boxes(jobs); !slices.Equal(boxes, want) {
		t.Errorf("Boxes(%+v) is %v; it should be %v", jobs, boxes, want)
	}
}

func dueIs(t *testing.T, jobs []api.Job, now int, want ...int) {
	t.Helper()
	if ids := job.Due(jobs, now); !slices.Equal(ids, want) {
		t.Errorf("Due(%+v, %d) is %v; it should be %v", jobs, now, ids, want)
	}
}

// place: by the words, where the first job of an ID is.
func place(jobs []api.Job, id int) int {
	for k := len(jobs) - 1; k >= 0; k-- {
		if jobs[k].ID == id && !slices.ContainsFunc(jobs[:k], func(j api.Job) bool { return j.ID == id }) {
			return k
		}
	}
	return -1
}

// mayBe: by the words, one after the other.
func mayBe(j api.Job) bool {
	const million = 1024 * 1024
	if j.ID < 1 || j.Fund < 0 || j.Fund > 7 || j.Nodes < 1 || j.Nodes > 32 || j.Wall < 1 || j.Wall > million {
		return false
	}
	if j.QoS < 0 || j.QoS > 7 || j.Prio < 0 || j.Prio > million || j.Price < 0 || j.Price > million*million {
		return false
	}
	if j.State == 1 || j.State == 2 {
		return j.Start == 0 && j.Mask == 0 && j.Used == 0 && len(j.Draws) == 0
	}
	if j.State != 3 && j.State != 4 || j.Start < 0 || j.Start > million*million || len(j.Draws) > 16 {
		return false
	}
	for k, d := range j.Draws {
		if d.Alloc < 0 || d.Alloc > 15 || d.Amount < 1 || d.Amount > million*million*million {
			return false
		}
		if slices.ContainsFunc(j.Draws[:k], func(other api.Draw) bool { return other.Alloc == d.Alloc }) {
			return false
		}
	}
	if j.State == 4 {
		return j.Mask == 0 && j.Used >= 0 && j.Used <= j.Wall
	}
	nodes := 0
	for mask := uint(j.Mask); mask > 0; mask /= 2 {
		nodes += int(mask % 2)
	}
	return uint(j.Mask) < 1<<32 && nodes == j.Nodes && j.Used == 0
}

// boxes: by the words, of one job: for each two nodes, is all between them a run of its mask?
func boxes(j api.Job) []api.Box {
	if j.Start < 0 || j.Start > last || j.Wall < 1 || j.Wall > longest {
		return nil
	}
	bits := uint64(uint32(j.Mask))
	var list []api.Box
	for first := range 32 {
		for nodes := 1; first+nodes <= 32; nodes++ {
			all := uint64(1)<<nodes - 1
			hasAll := bits>>first&all == all
			goesFurther := first > 0 && bits>>(first-1)&1 == 1 || bits>>(first+nodes)&1 == 1
			if hasAll && !goesFurther {
				list = append(list, api.Box{Tick: j.Start, Node: first, Len: j.Wall, Nodes: nodes})
			}
		}
	}
	return list
}

// due: by the words: each that is due has as many ahead of it as are ahead by end, ID or place.
func due(jobs []api.Job, now int) []int {
	at := map[int]int{}
	for i, j := range jobs {
		if j.State != 3 || j.Start+j.Wall > now {
			continue
		}
		before := 0
		for k, other := range jobs {
			if other.State == 3 && isAhead(other, j, k < i) {
				before++
			}
		}
		at[before] = j.ID
	}
	var ids []int
	for rank := range len(at) {
		ids = append(ids, at[rank])
	}
	return ids
}

// isAhead: is one ahead of another, if of the same end and ID it is where it is told to be?
func isAhead(one, other api.Job, lower bool) bool {
	if one.Start+one.Wall != other.Start+other.Wall {
		return one.Start+one.Wall < other.Start+other.Wall
	}
	return one.ID < other.ID || one.ID == other.ID && lower
}

// same: all calls answer what the words say.
func same(t *testing.T, jobs []api.Job, now int) {
	t.Helper()
	mask := 0
	var busy []api.Busy
	var plane []api.Box
	for _, j := range jobs {
		goodIs(t, j, mayBe(j))
		if j.State != 3 {
			continue
		}
		mask = mask | j.Mask
		busy = append(busy, api.Busy{End: j.Start + j.Wall, Nodes: j.Nodes})
		plane = append(plane, boxes(j)...)
	}
	maskIs(t, jobs, mask)
	busyIs(t, jobs, busy...)
	boxesAre(t, jobs, plane...)
	for _, tick := range []int{0, now - 1, now, now + 1, math.MaxInt} {
		dueIs(t, jobs, tick, due(jobs, tick)...)
	}
	for _, j := range append([]api.Job{{ID: -1}, {ID: 0}, {ID: 2}}, jobs...) {
		findIs(t, jobs, j.ID, place(jobs, j.ID))
	}
}

// P19.1: the chapter's example.
func TestExample(t *testing.T) {
	jobs := []api.Job{{ID: 1, Nodes: 1, Wall: 10, State: api.Running, Start: 5, Mask: 1}}
	dueIs(t, jobs, 14)
	dueIs(t, jobs, 15, 1)
	dueIs(t, jobs, 16, 1)
}

// P19.1: of no jobs, and of none that runs, there is nothing, be the list nil or empty.
func TestNobody(t *testing.T) {
	for _, jobs := range [][]api.Job{nil, {}, {queued(), held(), done()}, make([]api.Job, 3)} {
		maskIs(t, jobs, 0)
		busyIs(t, jobs)
		boxesAre(t, jobs)
		dueIs(t, jobs, math.MaxInt)
		dueIs(t, jobs, math.MinInt)
		findIs(t, jobs, 9, -1)
	}
	findIs(t, nil, 0, -1)
}

// P19.1: Find is the first place, whatever the job is.
func TestFind(t *testing.T) {
	jobs := four()
	for at, j := range jobs {
		findIs(t, jobs, j.ID, at)
		for _, id := range []int{0, -1, 5, j.ID - 8, j.ID + 1<<32, math.MinInt, math.MaxInt} {
			findIs(t, jobs, id, -1)
		}
	}
	twice := append(four(), four()...)
	for at, j := range jobs {
		findIs(t, twice, j.ID, at)
		findIs(t, twice[at+1:], j.ID, 3)
	}
	ends := []api.Job{{ID: math.MaxInt}, {}, {ID: math.MinInt}, {ID: -1}, {ID: -1, State: api.Running}}
	findIs(t, ends, math.MaxInt, 0)
	findIs(t, ends, 0, 1)
	findIs(t, ends, math.MinInt, 2)
	findIs(t, ends, -1, 3)
}

// P19.1: one of each state may be; nothing is none.
func TestGood(t *testing.T) {
	for _, j := range four() {
		goodIs(t, j, true)
	}
	goodIs(t, api.Job{}, false)
}

// ofAll: the numbers that a job of any state has, each from its least to its greatest.
func ofAll() []struct {
	what       string
	of         func(j *api.Job) *int
	low, great int
} {
	return []struct {
		what       string
		of         func(j *api.Job) *int
		low, great int
	}{
		{"ID", func(j *api.Job) *int { return &j.ID }, 1, math.MaxInt},
		{"Fund", func(j *api.Job) *int { return &j.Fund }, 0, 7},
		{"Wall", func(j *api.Job) *int { return &j.Wall }, 1, longest},
		{"QoS", func(j *api.Job) *int { return &j.QoS }, 0, 7},
		{"Prio", func(j *api.Job) *int { return &j.Prio }, 0, 1 << 20},
		{"Price", func(j *api.Job) *int { return &j.Price }, 0, 1 << 40},
	}
}

// P19.1: each number that a job of any state has, at its ends, and beside these.
func TestNumbersOfAll(t *testing.T) {
	for _, n := range ofAll() {
		for _, j := range four() {
			j.Used = 0
			for _, at := range []int{n.low, n.low + 1, n.great - 1, n.great} {
				*n.of(&j) = at
				goodIs(t, j, true)
			}
			beyond := []int{n.low - 1, -1, math.MinInt}
			if n.great < math.MaxInt {
				beyond = append(beyond, n.great+1, n.great*2+3, math.MaxInt, n.great+1<<41)
			}
			for _, at := range beyond {
				*n.of(&j) = at
				goodIs(t, j, false)
			}
		}
	}
}

// P19.1: from 1 to 32 nodes; of one that runs as many as its Mask has.
func TestNodes(t *testing.T) {
	for _, j := range four() {
		for nodes := range 40 {
			j.Nodes = nodes
			isSo := 1 <= nodes && nodes <= 32
			goodIs(t, j, isSo && (j.State != api.Running || nodes == 3))
			if j.State == api.Running {
				j.Mask = 1<<nodes - 1
				goodIs(t, j, isSo)
				j.Mask = 13
			}
		}
		for _, nodes := range []int{-1, -3, 33, 1<<32 + 3, math.MaxInt, math.MinInt} {
			j.Nodes = nodes
			goodIs(t, j, false)
		}
	}
}

// P19.1: there are four states.
func TestStates(t *testing.T) {
	for _, j := range four() {
		for _, state := range []int{0, 5, -1, -3, 1<<32 + j.State, math.MaxInt, math.MinInt} {
			j.State = state
			goodIs(t, j, false)
			maskIs(t, []api.Job{j}, 0)
			busyIs(t, []api.Job{j})
			boxesAre(t, []api.Job{j})
			dueIs(t, []api.Job{j}, 99)
		}
	}
	for _, j := range four() {
		for state := 1; state <= 4; state++ {
			mayTurn := j.State == state || j.State <= 2 && state != 3
			other := j
			other.State = state
			goodIs(t, other, mayTurn)
		}
	}
}

// P19.1: one that is Queued or Held has no Start, Mask, Used, Draws.
func TestWaits(t *testing.T) {
	for _, j := range four()[:2] {
		for _, n := range []int{1, -1, 5, 1 << 32, math.MaxInt, math.MinInt} {
			started, on, used := j, j, j
			started.Start, on.Mask, used.Used = n, n, n
			goodIs(t, started, false)
			goodIs(t, on, false)
			goodIs(t, used, false)
		}
		j.Draws = []api.Draw{}
		goodIs(t, j, true)
		j.Draws = []api.Draw{{Alloc: 1, Amount: 1}}
		goodIs(t, j, false)
		j.Draws = make([]api.Draw, 1)
		goodIs(t, j, false)
	}
}

// P19.1: one that runs, or is Done, started from 0 to 2^40.
func TestStart(t *testing.T) {
	for _, j := range four()[2:] {
		for _, at := range []int{0, 1, last - 1, last} {
			j.Start = at
			goodIs(t, j, true)
		}
		for _, at := range []int{-1, last + 1, 1 << 41, math.MaxInt, math.MinInt} {
			j.Start = at
			goodIs(t, j, false)
		}
	}
}

// P19.1: the Mask of one that runs has just its nodes, and no bit beyond 31; one that is Done has none.
func TestMaskOfOne(t *testing.T) {
	j := run()
	for _, mask := range []int{7, 13, 1<<31 | 3, 7 << 29, 1<<31 | 1<<15 | 1} {
		j.Mask = mask
		goodIs(t, j, true)
		for beyond := 32; beyond < 64; beyond++ {
			j.Mask = mask | 1<<beyond
			goodIs(t, j, false)
			// As many bits, but one of them is no node's.
			j.Mask = mask&(mask-1) | 1<<beyond
			goodIs(t, j, false)
		}
	}
	for _, mask := range []int{0, 1, 3, 15, 1<<32 - 1, -1, 1 << 32, math.MaxInt, math.MinInt, math.MinInt | 7} {
		j.Mask = mask
		goodIs(t, j, false)
	}
	j.Nodes, j.Mask = 32, 1<<32-1
	goodIs(t, j, true)
	j.Mask = -1
	goodIs(t, j, false)
	ended := done()
	for _, mask := range []int{1, 7, 13, 1 << 32, -1, math.MinInt} {
		ended.Mask = mask
		goodIs(t, ended, false)
	}
}

// P19.1: one that runs has used nothing; one that is Done from 0 to its Wall.
func TestUsed(t *testing.T) {
	j, ended := run(), done()
	for _, used := range []int{-1, 1, 10, 11, math.MaxInt, math.MinInt} {
		j.Used, ended.Used = used, used
		goodIs(t, j, false)
		goodIs(t, ended, used == 1 || used == 10)
	}
	for _, wall := range []int{1, 2, 9, longest} {
		ended.Wall = wall
		for _, used := range []int{0, 1, wall - 1, wall} {
			ended.Used = used
			goodIs(t, ended, true)
		}
		for _, used := range []int{-1, wall + 1, -wall, math.MaxInt} {
			ended.Used = used
			goodIs(t, ended, false)
		}
	}
}

// P19.1: of one that runs, and of one that is Done, there are at most 16 draws, of allocations all unlike, each of an amount from 1 to 2^60.
func TestDraws(t *testing.T) {
	for _, j := range four()[2:] {
		j.Draws = nil
		goodIs(t, j, true)
		for alloc := 15; alloc >= 0; alloc-- {
			j.Draws = append(j.Draws, api.Draw{Alloc: alloc, Amount: 1 << (60 - alloc)})
			goodIs(t, j, true)
		}
		full := slices.Clone(j.Draws)
		for at := range full {
			for _, n := range []int{-1, 16, 17, 1 << 32, math.MaxInt, math.MinInt, full[(at+1)%16].Alloc, full[(at+15)%16].Alloc} {
				j.Draws = slices.Clone(full)
				j.Draws[at].Alloc = n
				goodIs(t, j, false)
			}
			for _, n := range []int{1, 2, 1<<60 - 1, 1 << 60, 0, -1, 1<<60 + 1, math.MaxInt, math.MinInt} {
				j.Draws = slices.Clone(full)
				j.Draws[at].Amount = n
				goodIs(t, j, 1 <= n && n <= 1<<60)
			}
			j.Draws = append(slices.Clone(full), full[at])
			goodIs(t, j, false)
		}
		for _, n := range []int{16, 17, 18, 100} {
			j.Draws = make([]api.Draw, n)
			for k := range j.Draws {
				j.Draws[k] = api.Draw{Alloc: k, Amount: 1}
			}
			goodIs(t, j, n == 16)
		}
	}
}

// P19.1: of all that run, and of no other, the bits of their Masks, whatever these are.
func TestMask(t *testing.T) {
	maskIs(t, four(), 13)
	jobs := append(four(), four()...)
	jobs[6].Mask = 48
	maskIs(t, jobs, 61)
	jobs[5].Mask, jobs[4].Mask, jobs[7].Mask = 1<<7, 1<<8, 1<<9
	maskIs(t, jobs, 61)
	jobs[6].Mask = 12
	maskIs(t, jobs, 13)
	for bit := range 64 {
		jobs[6].Mask = 1 << bit
		maskIs(t, jobs, 13|1<<bit)
		jobs[6].Mask = -1 << bit
		maskIs(t, jobs, 13|-1<<bit)
	}
}

// P19.1: of each that runs, in order, its end and its Nodes, whatever its Mask.
func TestBusy(t *testing.T) {
	jobs := append(four(), four()...)
	busyIs(t, jobs, api.Busy{End: 15, Nodes: 3}, api.Busy{End: 15, Nodes: 3})
	jobs[2].Start, jobs[2].Nodes, jobs[2].Mask = 9, 7, 0
	busyIs(t, jobs, api.Busy{End: 19, Nodes: 7}, api.Busy{End: 15, Nodes: 3})
	jobs[2].Start, jobs[2].Wall, jobs[2].Nodes = 0, 0, -4
	jobs[6].Start, jobs[6].Wall, jobs[6].Nodes = far, far, math.MaxInt
	busyIs(t, jobs, api.Busy{End: 0, Nodes: -4}, api.Busy{End: 1 << 51, Nodes: math.MaxInt})
	jobs[6].Start, jobs[6].Wall = far, 0
	busyIs(t, jobs[3:], api.Busy{End: far, Nodes: math.MaxInt})
	jobs[6].Start, jobs[6].Wall = 0, far
	busyIs(t, jobs[3:], api.Busy{End: far, Nodes: math.MaxInt})
}

// P19.1: of each that runs, in order, chapter 2's Rows.
func TestBoxes(t *testing.T) {
	jobs := append(four(), four()...)
	one, two := api.Box{Tick: 5, Node: 0, Len: 10, Nodes: 1}, api.Box{Tick: 5, Node: 2, Len: 10, Nodes: 2}
	boxesAre(t, jobs, one, two, one, two)
	jobs[2].Mask, jobs[2].Start = 1<<32-1, 2
	boxesAre(t, jobs, api.Box{Tick: 2, Len: 10, Nodes: 32}, one, two)
	jobs[2].Mask = 1 << 32
	boxesAre(t, jobs, one, two)
	jobs[2].Mask, jobs[2].Start, jobs[2].Wall = 1<<31, last, longest
	high := api.Box{Tick: last, Node: 31, Len: longest, Nodes: 1}
	boxesAre(t, jobs, high, one, two)
	// One that no box has, since it is too late or too long, is left out.
	for _, c := range [][2]int{{last + 1, longest}, {last, longest + 1}, {last, 0}, {far, far}, {0, 0}} {
		jobs[2].Start, jobs[2].Wall = c[0], c[1]
		boxesAre(t, jobs, one, two)
	}
	jobs[6].State = api.Held
	boxesAre(t, jobs)
}

// at: one that runs, and ends then.
func at(id, start, wall int) api.Job {
	return api.Job{ID: id, Start: start, Wall: wall, State: api.Running}
}

// P19.1: the least end first, of one end the least ID, wherever they stand; none ahead of its end.
func TestDue(t *testing.T) {
	jobs := []api.Job{at(4, 0, 9), at(3, 5, 10), at(2, 3, 12), queued(), at(9, 9, 1), at(7, 15, 0), held(), at(5, 2, 8), done()}
	for now, want := range map[int][]int{
		-1: nil, 0: nil, 8: nil, 9: {4}, 10: {4, 5, 9}, 11: {4, 5, 9}, 14: {4, 5, 9}, 15: {4, 5, 9, 2, 3, 7}, 16: {4, 5, 9, 2, 3, 7}, math.MaxInt: {4, 5, 9, 2, 3, 7}, math.MinInt: nil,
	} {
		dueIs(t, jobs, now, want...)
		backward := slices.Clone(jobs)
		slices.Reverse(backward)
		dueIs(t, backward, now, want...)
	}
	same := []api.Job{at(5, 1, 2), at(5, 2, 1), at(4, 3, 1), at(5, 3, 0), at(math.MinInt, 0, 3), at(math.MaxInt, 3, 0), at(0, 0, 3)}
	dueIs(t, same, 3, math.MinInt, 0, 5, 5, 5, math.MaxInt)
	dueIs(t, same, 4, math.MinInt, 0, 5, 5, 5, math.MaxInt, 4)
}

// P19.1: ends that are late, and those that a Start of now has.
func TestLateEnds(t *testing.T) {
	jobs := []api.Job{at(1, far, far), at(2, far, far-1), at(3, far-1, far), at(4, far, 0), at(5, 0, far), at(6, 0, 0)}
	dueIs(t, jobs, 0, 6)
	dueIs(t, jobs, far-1, 6)
	dueIs(t, jobs, far, 6, 4, 5)
	dueIs(t, jobs, 2*far-2, 6, 4, 5)
	dueIs(t, jobs, 2*far-1, 6, 4, 5, 2, 3)
	dueIs(t, jobs, 2*far, 6, 4, 5, 2, 3, 1)
}

// P19.1: of many jobs too.
func TestMany(t *testing.T) {
	var jobs []api.Job
	var ids []int
	for k := range 1000 {
		jobs = append(jobs, at(k/2, (1000-k/20*20)*3, 7), queued())
		ids = append(ids, k)
	}
	busy := job.Busy(jobs)
	if len(busy) != 1000 || len(job.Boxes(jobs)) != 0 || busy[999].End != 20*3+7 {
		t.Error(len(busy), len(job.Boxes(jobs)))
	}
	got := job.Due(jobs, math.MaxInt)
	if len(got) != len(ids) || !slices.Equal(got, due(jobs, math.MaxInt)) {
		t.Error(got)
	}
	findIs(t, jobs, 499, 1996)
}

// R1, R5: numbers at their ends, of some of which the chapter does not speak, panic nowhere, and answer the same again.
func TestAnyArgument(t *testing.T) {
	ends := []int{math.MinInt, math.MinInt + 1, -1, 0, 1, 3, 15, 16, 31, 32, 33, 1 << 40, 1 << 60, math.MaxInt}
	for _, n := range ends {
		for _, m := range ends {
			for state := -1; state <= 5; state++ {
				j := api.Job{ID: n, Fund: n & 7, Nodes: m, Wall: n, Prio: 1, State: state, Start: m, Mask: n, Used: m, Draws: []api.Draw{{Alloc: n, Amount: m}, {Alloc: m, Amount: n}}}
				goodIs(t, j, mayBe(j))
				jobs := []api.Job{j, run(), j}
				for range 2 {
					job.Busy(jobs)
					job.Boxes(jobs)
					job.Due(jobs, n)
					findIs(t, jobs, n, place(jobs, n))
				}
			}
		}
	}
}

// R4, R5: what is handed in stays as it is, its spare room too, and answers share no memory.
func TestNothingIsChanged(t *testing.T) {
	room := append(append(four(), four()...), run(), run())
	room[2].Start = 9
	jobs := room[:8]
	kept := append(append(four(), four()...), run(), run())
	kept[2].Start = 9
	for k := range room {
		room[k].Draws = append(room[k].Draws, api.Draw{Alloc: 9, Amount: 9})[:len(room[k].Draws)]
	}
	for turn := range 3 {
		busy, plane, ids := job.Busy(jobs), job.Boxes(jobs), job.Due(jobs, 99)
		if !slices.Equal(busy, []api.Busy{{End: 19, Nodes: 3}, {End: 15, Nodes: 3}}) || len(plane) != 4 || !slices.Equal(ids, []int{3, 3}) {
			t.Error(busy, plane, ids)
		}
		for _, j := range jobs {
			goodIs(t, j, true)
		}
		findIs(t, jobs, 3, 2)
		maskIs(t, jobs, 13)
		for k := range busy[:cap(busy)] {
			busy[:cap(busy)][k].End = -turn
		}
		for k := range plane[:cap(plane)] {
			plane[:cap(plane)][k].Tick = -turn
		}
		for k := range ids[:cap(ids)] {
			ids[:cap(ids)][k] = -turn
		}
		for k, j := range room {
			if len(j.Draws) == 0 {
				j.Draws = nil
			}
			if !reflect.DeepEqual(j, kept[k]) || room[k].Draws[:len(j.Draws)+1][len(j.Draws)] != (api.Draw{Alloc: 9, Amount: 9}) {
				t.Error(j, kept[k])
			}
		}
	}
}

// P19.1: all lists of three that run, or do not, of small ends and IDs.
func TestAllSmall(t *testing.T) {
	for code := range 24 * 24 * 24 {
		var jobs []api.Job
		for k := code; len(jobs) < 3; k /= 24 {
			jobs = append(jobs, api.Job{State: 2 + k%2, ID: 1 + k/2%3, Start: k / 6 % 2, Wall: k / 12 % 2, Nodes: 1, Mask: 1 << (k % 3)})
		}
		for now := range 4 {
			dueIs(t, jobs, now, due(jobs, now)...)
		}
		same(t, jobs, 1)
	}
}

// near: one of the numbers that matter, or one beside it.
func near(r *rand.Rand, list ...int) int {
	return list[r.Intn(len(list))] + r.Intn(3)/2 - r.Intn(3)/2
}

// some: a job that may be, or has a few numbers that may not.
func some(r *rand.Rand) api.Job {
	j := four()[r.Intn(4)]
	j.ID = 1 + r.Intn(6)
	if r.Intn(2) == 0 && j.State != api.Running {
		j.Nodes = near(r, 1, 32)
	}
	for spoil := r.Intn(3); spoil > 0; spoil-- {
		switch r.Intn(9) {
		case 0:
			j.Mask = r.Intn(1 << 33)
			j.Nodes = r.Intn(32)
		case 1:
			j.Start = near(r, 0, last, far-1)
		case 2:
			j.Wall = near(r, 1, longest, far-1)
		case 3:
			j.Used = near(r, 0, j.Wall)
		case 4:
			j.Draws = append(slices.Clone(j.Draws), api.Draw{Alloc: near(r, 0, 2, 15), Amount: near(r, 1, 1<<60)})
		case 5:
			j.State = near(r, 1, 4)
		case 6:
			j.Price, j.Prio = near(r, 0, 1<<40), near(r, 0, 1<<20)
		case 7:
			j.Fund, j.QoS = near(r, 0, 7), near(r, 0, 7)
		case 8:
			j.ID = near(r, 0, 1)
		}
	}
	j.Start, j.Wall = max(j.Start, 0), max(j.Wall, 0)
	return j
}

// P19.1: held against the words, and enough of each kind.
func TestAtRandom(t *testing.T) {
	r := rand.New(rand.NewSource(19))
	may, mayNot := 0, 0
	for range 20000 {
		var jobs []api.Job
		for range r.Intn(8) {
			j := some(r)
			jobs = append(jobs, j)
			if mayBe(j) {
				may++
			} else {
				mayNot++
			}
		}
		same(t, jobs, near(r, 15, 5, 10, last+10, longest))
	}
	if may < 20000 || mayNot < 10000 {
		t.Error("too few of a kind", may, mayNot)
	}
}

// P19.1: held against the words.
func FuzzJob(f *testing.F) {
	f.Add(int64(1), int64(5), int64(10), uint64(13), int64(3), int64(0), []byte{3, 1, 2})
	f.Add(int64(4), int64(1<<40), int64(1<<20), uint64(1<<31), int64(1), int64(1<<40), []byte{4, 15, 15})
	f.Add(int64(9), int64(0), int64(0), uint64(0), int64(33), int64(-1), []byte{})
	f.Fuzz(func(t *testing.T, id, start, wall int64, mask uint64, nodes, used int64, rest []byte) {
		j := api.Job{ID: int(id), Start: int(start) & (far - 1), Wall: int(wall) & (far - 1), Mask: int(mask), Nodes: int(nodes), Used: int(used)}
		var jobs []api.Job
		for k, b := range rest[:min(len(rest), 12)] {
			j.State = int(b & 7)
			j.ID += int(b >> 6)
			j.Start += k % 2
			j.Fund, j.QoS = int(b>>3), int(b>>4)
			jobs = append(jobs, j)
			j.Draws = append(slices.Clone(j.Draws), api.Draw{Alloc: int(b) - 1, Amount: int(id) + int(b)})
		}
		same(t, jobs, int(start)&(far-1)+int(wall)&(far-1))
	})
}
