package plane_test

import (
	"math"
	"math/big"
	"math/bits"
	"slices"
	"testing"

	"prebend/api"
	"prebend/plane"
)

func box(tick, node, long, nodes int) api.Box {
	return api.Box{Tick: tick, Node: node, Len: long, Nodes: nodes}
}

const (
	mostTick = 1 << 40
	mostLen  = 1 << 20
)

func TestLimits(t *testing.T) {
	if mostTick != api.MaxTime || mostLen != api.MaxWall || api.MaxNodes != 32 {
		t.Error(api.MaxTime, api.MaxWall, api.MaxNodes)
	}
}

// may: may a box be, as whole numbers without bound tell?
func may(b api.Box) bool {
	from := func(low, n, high int) bool { return low <= n && n <= high }
	top := new(big.Int).Add(big.NewInt(int64(b.Node)), big.NewInt(int64(b.Nodes)))
	return from(0, b.Tick, mostTick) && from(1, b.Len, mostLen) && from(0, b.Node, 31) && from(1, b.Nodes, 32) && top.Cmp(big.NewInt(32)) <= 0
}

var (
	badBoxes = []api.Box{
		{},
		box(-1, 0, 1, 1), box(mostTick+1, 0, 1, 1), box(math.MinInt, 0, 1, 1), box(math.MaxInt, 0, 1, 1),
		box(0, -1, 1, 1), box(0, 32, 1, 1), box(0, -1, 1, 33), box(0, math.MinInt, 1, 1), box(0, math.MaxInt, 1, 1),
		box(0, 0, 0, 1), box(0, 0, -1, 1), box(0, 0, mostLen+1, 1), box(0, 0, math.MinInt, 1), box(0, 0, math.MaxInt, 1),
		box(0, 0, 1, 0), box(0, 0, 1, -1), box(0, 0, 1, 33), box(0, 0, 1, math.MinInt), box(0, 0, 1, math.MaxInt),
		box(0, 1, 1, 32), box(0, 31, 1, 2), box(0, 16, 1, 17), box(0, 1, 1, math.MaxInt), box(0, math.MaxInt, 1, math.MaxInt),
		box(-1, 0, 2, 1), box(-1, -1, -1, -1), box(2, 0, -1, 1), box(0, 2, 1, -1),
	}
	goodBoxes = []api.Box{
		box(0, 0, 1, 1), box(0, 0, 2, 2), box(1, 1, 5, 1), box(7, 3, 9, 4),
		box(mostTick, 0, 1, 1), box(mostTick, 31, mostLen, 1), box(mostTick-1, 0, mostLen, 32),
		box(0, 0, mostLen, 32), box(0, 0, 1, 32), box(0, 31, 1, 1), box(0, 1, 1, 31), box(0, 16, 1, 16),
	}
	areas = []int{1, 4, 5, 36, 1, mostLen, mostLen * 32, mostLen * 32, 32, 1, 31, 16}
)

// P2.1: Good and Area.
func TestGoodAndArea(t *testing.T) {
	for i, b := range goodBoxes {
		if !plane.Good(b) {
			t.Error(b, "may be")
		}
		if n := plane.Area(b); n != areas[i] {
			t.Errorf("Area(%v) is %d; it should be %d", b, n, areas[i])
		}
	}
	for _, b := range badBoxes {
		if plane.Good(b) {
			t.Error(b, "may not be")
		}
		if n := plane.Area(b); n != 0 {
			t.Errorf("Area(%v) is %d; it should be 0", b, n)
		}
	}
}

// endsOf: the numbers around a range's ends, and those that floats do not have, or that go round.
func endsOf(low, high int) []int {
	return []int{
		low - 1, low, low + 1, (low + high) / 2, high - 1, high, high + 1,
		-1, 0, 1, 31, 32, 33, 1<<53 - 1, 1<<53 + 1, -1<<53 - 1, 1<<62 + 1, math.MaxInt - 31, math.MaxInt, math.MinInt, math.MinInt + 1,
	}
}

// P2.1: Good and Area at all ends, held against whole numbers without bound.
func TestGoodAtAllEnds(t *testing.T) {
	for _, tick := range endsOf(0, mostTick) {
		for _, long := range endsOf(1, mostLen) {
			for _, node := range endsOf(0, 31) {
				for _, nodes := range endsOf(1, 32) {
					b := box(tick, node, long, nodes)
					area := 0
					if may(b) {
						area = long * nodes
					}
					if plane.Good(b) != may(b) || plane.Area(b) != area {
						t.Error(b, plane.Good(b), plane.Area(b))
					}
				}
			}
		}
	}
}

// P2.1: all sums of Node and Nodes, and all areas of one tick.
func TestGoodUpward(t *testing.T) {
	for node := -2; node < 36; node++ {
		for nodes := -2; nodes < 36; nodes++ {
			if b := box(5, node, 1, nodes); plane.Good(b) != may(b) || may(b) && plane.Area(b) != nodes {
				t.Error(b, plane.Good(b), plane.Area(b))
			}
		}
	}
}

// P2.1: Meets.
func TestMeets(t *testing.T) {
	for _, c := range []struct {
		a, b  api.Box
		meets bool
	}{
		{box(0, 0, 2, 2), box(1, 1, 5, 1), true},
		{box(0, 0, 2, 2), box(2, 0, 1, 1), false},
		{box(0, 0, 2, 2), box(1, 0, 1, 1), true},
		{box(0, 0, 2, 2), box(0, 2, 1, 1), false},
		{box(0, 0, 2, 2), box(0, 1, 1, 1), true},
		{box(0, 0, 2, 2), box(2, 2, 1, 1), false},
		{box(0, 2, 2, 2), box(2, 0, 2, 2), false},
		{box(3, 3, 1, 1), box(0, 0, 10, 10), true},
		// A cross: neither has a corner of the other one.
		{box(4, 0, 2, 9), box(0, 4, 9, 2), true},
		{box(mostTick, 31, 1, 1), box(mostTick-1, 0, 2, 32), true},
		{box(mostTick, 31, 1, 1), box(mostTick-1, 0, 1, 32), false},
		{box(mostTick, 0, mostLen, 32), box(mostTick, 31, 1, 1), true},
		{box(mostTick-mostLen, 0, mostLen, 32), box(mostTick, 0, mostLen, 32), false},
		{box(mostTick-mostLen+1, 0, mostLen, 32), box(mostTick, 0, mostLen, 32), true},
		// One may not be: it has nothing.
		{box(-1, 0, 9, 1), box(0, 0, 1, 1), false},
		{box(0, 31, 1, 2), box(0, 0, 1, 32), false},
		{box(0, -1, 1, 9), box(0, 0, 1, 1), false},
		{box(mostTick+1, 0, 1, 1), box(mostTick, 0, 9, 1), false},
		{box(0, 0, mostLen+1, 1), box(0, 0, 1, 1), false},
	} {
		if plane.Meets(c.a, c.b) != c.meets || plane.Meets(c.b, c.a) != c.meets {
			t.Errorf("%v and %v: should they meet? %v", c.a, c.b, c.meets)
		}
	}
}

// P2.1: what may be meets itself; what may not be meets nothing, not even itself.
func TestMeetsOneself(t *testing.T) {
	for _, b := range goodBoxes {
		if !plane.Meets(b, b) {
			t.Error(b, "does not meet itself")
		}
		for _, c := range badBoxes {
			if plane.Meets(b, c) || plane.Meets(c, b) {
				t.Error(b, c, "meet")
			}
		}
	}
	for _, b := range badBoxes {
		if plane.Meets(b, b) {
			t.Error(b, "meets itself")
		}
	}
}

type point struct{ tick, node int }

func points(b api.Box) map[point]bool {
	has := map[point]bool{}
	for tick := b.Tick; tick < b.Tick+b.Len; tick++ {
		for node := b.Node; node < b.Node+b.Nodes; node++ {
			has[point{tick, node}] = true
		}
	}
	return has
}

// smallBoxes: all that lie within 4 ticks and 4 nodes from a corner on.
func smallBoxes(tick, node int) []api.Box {
	var list []api.Box
	for x := range 4 {
		for y := range 4 {
			for w := 1; x+w <= 4; w++ {
				for h := 1; y+h <= 4; h++ {
					list = append(list, box(tick+x, node+y, w, h))
				}
			}
		}
	}
	return list
}

// P2.1: Meets, held against the points that two boxes have.
func TestMeetsByPoints(t *testing.T) {
	for _, c := range []point{{0, 0}, {mostTick - 3, 28}} {
		list := smallBoxes(c.tick, c.node)
		for _, a := range list {
			mine := points(a)
			for _, b := range list {
				meets := false
				for p := range points(b) {
					meets = meets || mine[p]
				}
				if plane.Meets(a, b) != meets {
					t.Error(a, b, meets)
				}
			}
		}
	}
}

// P2.1: Apart.
func TestApart(t *testing.T) {
	a, b, c := box(0, 0, 2, 2), box(2, 0, 1, 1), box(0, 2, 2, 2)
	for _, l := range []struct {
		list  []api.Box
		apart bool
	}{
		{nil, true},
		{[]api.Box{}, true},
		{[]api.Box{a}, true},
		{[]api.Box{a, b}, true},
		{[]api.Box{a, b, c}, true},
		{[]api.Box{c, a, b}, true},
		// One box at two places.
		{[]api.Box{a, a}, false},
		{[]api.Box{a, b, a}, false},
		// Each pair, be it the first or the last.
		{[]api.Box{a, box(1, 1, 5, 1)}, false},
		{[]api.Box{box(1, 1, 5, 1), a}, false},
		{[]api.Box{a, box(1, 1, 1, 1), b, c}, false},
		{[]api.Box{a, b, box(1, 1, 1, 1), c}, false},
		{[]api.Box{b, a, c, box(1, 3, 1, 1)}, false},
		{[]api.Box{b, a, c, box(1, 4, 1, 1)}, true},
		{[]api.Box{b, a, c, box(2, 0, 1, 32)}, false},
	} {
		if plane.Apart(l.list) != l.apart {
			t.Errorf("Apart(%v) should be %v", l.list, l.apart)
		}
	}
}

// P2.1: one that may not be is enough, wherever it stands.
func TestApartWantsGoodOnes(t *testing.T) {
	for _, bad := range badBoxes {
		for i := range 3 {
			list := slices.Insert([]api.Box{box(50, 0, 2, 2), box(60, 0, 2, 2)}, i, bad)
			if plane.Apart(list) {
				t.Error(list)
			}
		}
		if plane.Apart([]api.Box{bad}) {
			t.Error(bad)
		}
	}
}

// P2.1: Apart of three, held against the points that they have. R4: the list is as it was, its spare room too.
func TestApartByPoints(t *testing.T) {
	list := smallBoxes(3, 28)
	for _, a := range list {
		for _, b := range list {
			c := list[(a.Tick*7+a.Len*5+b.Node*3+b.Nodes)%len(list)]
			all := map[point]bool{}
			sum := 0
			three := []api.Box{a, b, c, box(1, 2, 3, 4)}
			given := slices.Clone(three)
			for _, x := range given[:3] {
				sum += x.Len * x.Nodes
				for p := range points(x) {
					all[p] = true
				}
			}
			if plane.Apart(given[:3]) != (len(all) == sum) {
				t.Error(given[:3])
			}
			if !slices.Equal(given, three) {
				t.Errorf("%v was changed to %v", three, given)
			}
		}
	}
}

// P2.2: Rows of one tick and length, and various nodes.
func TestRows(t *testing.T) {
	for _, c := range []struct {
		mask int
		want [][2]int
	}{
		{0, nil},
		{1, [][2]int{{0, 1}}},
		{2, [][2]int{{1, 1}}},
		{13, [][2]int{{0, 1}, {2, 2}}},
		{0b1110111001, [][2]int{{0, 1}, {3, 3}, {7, 3}}},
		{1 << 31, [][2]int{{31, 1}}},
		{1<<31 | 1, [][2]int{{0, 1}, {31, 1}}},
		{3<<30 | 3, [][2]int{{0, 2}, {30, 2}}},
		{1<<32 - 1, [][2]int{{0, 32}}},
		{1<<31 - 1, [][2]int{{0, 31}}},
		{1<<32 - 2, [][2]int{{1, 31}}},
		{1<<32 - 1 - 1<<16, [][2]int{{0, 16}, {17, 15}}},
		// Higher bits count for nothing.
		{1 << 32, nil},
		{math.MinInt, nil},
		{math.MinInt + 1, [][2]int{{0, 1}}},
		{math.MaxInt, [][2]int{{0, 32}}},
		{-1, [][2]int{{0, 32}}},
		{-2, [][2]int{{1, 31}}},
		{-1 << 31, [][2]int{{31, 1}}},
		{-1 << 32, nil},
		{7 << 31, [][2]int{{31, 1}}},
		{5<<32 | 13, [][2]int{{0, 1}, {2, 2}}},
	} {
		var want []api.Box
		for _, r := range c.want {
			want = append(want, box(7, r[0], 9, r[1]))
		}
		if got := plane.Rows(7, 9, c.mask); !slices.Equal(got, want) {
			t.Errorf("Rows(7, 9, %d) is %v; it should be %v", c.mask, got, want)
		}
	}
}

// P2.2: ticks and lengths at their ends.
func TestRowsAtEnds(t *testing.T) {
	for _, tick := range endsOf(0, mostTick) {
		for _, long := range endsOf(1, mostLen) {
			var want []api.Box
			if may(box(tick, 0, long, 1)) {
				want = []api.Box{box(tick, 0, long, 1), box(tick, 2, long, 2)}
			}
			if got := plane.Rows(tick, long, 13); !slices.Equal(got, want) {
				t.Errorf("Rows(%d, %d, 13) is %v; it should be %v", tick, long, got, want)
			}
		}
	}
}

// testRuns: the rows of a mask are its nodes, rising, with a gap between any two.
func testRuns(t *testing.T, mask int) {
	t.Helper()
	rows := plane.Rows(mostTick, mostLen, mask)
	nodes, sum, next := 0, 0, 0
	for _, b := range rows {
		if !plane.Good(b) || b.Tick != mostTick || b.Len != mostLen || b.Node < next {
			t.Error(mask, rows)
			return
		}
		nodes |= (1<<b.Nodes - 1) << b.Node
		sum += plane.Area(b)
		next = b.Node + b.Nodes + 1
	}
	if nodes != mask&(1<<32-1) || sum != bits.OnesCount32(uint32(mask))*mostLen || !plane.Apart(rows) {
		t.Error(mask, rows)
	}
}

// P2.2: all masks of 16 nodes, at both ends; those of two runs, wherever they begin and end.
func TestRowsOfManyMasks(t *testing.T) {
	for mask := range 1 << 16 {
		testRuns(t, mask)
		testRuns(t, mask<<16)
		testRuns(t, ^mask)
	}
	for a := range 33 {
		for b := range 33 {
			testRuns(t, (1<<a-1)^(1<<b-1))
			testRuns(t, ^((1<<a - 1) ^ (1<<b - 1)))
		}
	}
}

// R4 and R5: answers share nothing, spare room included, and nothing is kept.
func TestRowsAreNew(t *testing.T) {
	want := []api.Box{box(7, 0, 9, 1), box(7, 2, 9, 2), box(7, 5, 9, 1)}
	first, second := plane.Rows(7, 9, 45), plane.Rows(7, 9, 45)
	for i := range first[:cap(first)] {
		first[:cap(first)][i] = box(-1, -1, -1, -1)
	}
	if !slices.Equal(second, want) || !slices.Equal(plane.Rows(7, 9, 45), want) {
		t.Error(second)
	}
	if second = append(second, box(1, 1, 1, 1)); second[3] != box(1, 1, 1, 1) || first[0] != box(-1, -1, -1, -1) {
		t.Error(first, second)
	}
}
