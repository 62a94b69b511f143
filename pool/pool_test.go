package pool_test

import (
	"math"
	"math/big"
	"math/rand"
	"testing"

	"prebend/api"
	"prebend/pool"
)

const whole = 1<<32 - 1

func TestLimits(t *testing.T) {
	if api.MaxNodes != 32 {
		t.Error(api.MaxNodes)
	}
}

// allIs: All answers that.
func allIs(t *testing.T, nodes, want int) {
	t.Helper()
	if n := pool.All(nodes); n != want {
		t.Errorf("All(%d) is %#x; it should be %#x", nodes, n, want)
	}
}

// countIs: Count answers that.
func countIs(t *testing.T, mask, want int) {
	t.Helper()
	if n := pool.Count(mask); n != want {
		t.Errorf("Count(%#x) is %d; it should be %d", mask, n, want)
	}
}

// takeIs: Take answers that.
func takeIs(t *testing.T, free, n, want int) {
	t.Helper()
	if mask, ok := pool.Take(free, n); mask != want || !ok {
		t.Errorf("Take(%#x, %d) is %#x, %v; it should be %#x", free, n, mask, ok, want)
	}
}

// takeNone: Take answers false, and nothing else.
func takeNone(t *testing.T, free, n int) {
	t.Helper()
	if mask, ok := pool.Take(free, n); mask != 0 || ok {
		t.Errorf("Take(%#x, %d) is %#x, %v; it should be 0, false", free, n, mask, ok)
	}
}

// nodesOf: the nodes of a mask, rising, as a whole number of two's complement without bound has them.
func nodesOf(mask int) []int {
	var nodes []int
	bits := big.NewInt(int64(mask))
	for node := 0; node <= 31; node++ {
		if bits.Bit(node) == 1 {
			nodes = append(nodes, node)
		}
	}
	return nodes
}

// maskOf: a mask of nodes that differ.
func maskOf(nodes []int) int {
	sum := new(big.Int)
	for _, node := range nodes {
		sum.Add(sum, new(big.Int).Exp(big.NewInt(2), big.NewInt(int64(node)), nil))
	}
	return int(sum.Int64())
}

// same: Count and Take answer what the words say.
func same(t *testing.T, mask, n int) {
	t.Helper()
	nodes := nodesOf(mask)
	countIs(t, mask, len(nodes))
	if n < 0 || n > len(nodes) {
		takeNone(t, mask, n)
	} else {
		takeIs(t, mask, n, maskOf(nodes[:n]))
	}
}

// P14.1: the chapter's examples.
func TestExamples(t *testing.T) {
	allIs(t, 3, 7)
	takeIs(t, 13, 2, 5)
}

// P14.1: All of each number, and beyond its ends.
func TestAll(t *testing.T) {
	var nodes []int
	for n := range 32 {
		allIs(t, n, maskOf(nodes))
		nodes = append(nodes, n)
	}
	for _, n := range []int{32, 33, 34, 63, 64, 65, 128, 1 << 31, 1 << 32, math.MaxInt - 1, math.MaxInt} {
		allIs(t, n, whole)
	}
	for _, n := range []int{0, -1, -2, -31, -32, -33, -64, -1 << 32, 3 - 1<<32, math.MinInt + 1, math.MinInt} {
		allIs(t, n, 0)
	}
}

// P14.1: Count of no nodes, of one, of runs, and of all but one.
func TestCount(t *testing.T) {
	countIs(t, 0, 0)
	countIs(t, 13, 3)
	countIs(t, whole, 32)
	countIs(t, 0x55555555, 16)
	for n := -3; n < 40; n++ {
		countIs(t, pool.All(n), max(0, min(32, n)))
	}
	for node := range 32 {
		countIs(t, 1<<node, 1)
		countIs(t, whole-1<<node, 31)
		countIs(t, 1<<node|1, min(node, 1)+1)
	}
}

// P14.1: Take of no nodes, of all, and of one more than there are.
func TestTake(t *testing.T) {
	takeIs(t, 13, 0, 0)
	takeIs(t, 13, 1, 1)
	takeIs(t, 13, 3, 13)
	takeNone(t, 13, 4)
	takeIs(t, 0, 0, 0)
	takeNone(t, 0, 1)
	takeIs(t, 1<<31|1<<30, 1, 1<<30)
	takeIs(t, 1<<31, 1, 1<<31)
	takeNone(t, 1<<31, 2)
	for n := range 33 {
		takeIs(t, whole, n, pool.All(n))
	}
	for node := range 32 {
		takeIs(t, 1<<node, 1, 1<<node)
		takeIs(t, 1<<node, 0, 0)
		takeNone(t, 1<<node, 2)
		takeIs(t, whole-1<<node, 31, whole-1<<node)
		takeNone(t, whole-1<<node, 32)
	}
}

// P14.1: Take of fewer than none, and of more than there can be.
func TestTakeWrongNumbers(t *testing.T) {
	for _, free := range []int{0, 1, 13, 1 << 31, whole, -1, math.MaxInt, math.MinInt} {
		for _, n := range []int{-1, -2, -31, -32, -33, -64, 1 - 1<<32, -1 << 32, math.MinInt + 1, math.MinInt} {
			takeNone(t, free, n)
		}
		for _, n := range []int{33, 34, 63, 64, 65, 1 << 31, 1 << 32, 1<<32 + 1, math.MaxInt - 1, math.MaxInt} {
			takeNone(t, free, n)
		}
	}
}

// P14.1: higher bits count for nothing.
func TestHigherBits(t *testing.T) {
	countIs(t, -1, 32)
	countIs(t, math.MaxInt, 32)
	countIs(t, math.MinInt, 0)
	takeIs(t, -1, 32, whole)
	takeNone(t, -1, 33)
	takeIs(t, 1<<33|2, 1, 2)
	takeNone(t, 1<<33|2, 2)
	takeIs(t, math.MinInt, 0, 0)
	takeNone(t, math.MinInt, 1)
	for bit := 32; bit < 64; bit++ {
		high := 1 << bit
		countIs(t, high, 0)
		takeIs(t, high, 0, 0)
		takeNone(t, high, 1)
		countIs(t, high|13, 3)
		takeIs(t, high|13, 2, 5)
		takeIs(t, high|13, 3, 13)
		takeNone(t, high|13, 4)
	}
}

// P14.1: all masks of the nodes 0 to 7, of 24 to 31, and of 28 to 35, and all numbers of nodes around them.
func TestAllSmallMasks(t *testing.T) {
	for mask := range 256 {
		for _, shift := range []int{0, 24, 28} {
			for n := -2; n < 12; n++ {
				same(t, mask<<shift, n)
			}
		}
	}
}

// P14.1: what is taken, and what stays, is what was free; nothing that stays is below what is taken.
func TestTakenAndLeft(t *testing.T) {
	r := rand.New(rand.NewSource(14))
	for range 5000 {
		free := int(r.Uint32())
		taken, ok := pool.Take(free, r.Intn(pool.Count(free)+1))
		left := free &^ taken
		if !ok || taken&^free != 0 || pool.Count(taken)+pool.Count(left) != pool.Count(free) {
			t.Errorf("of %#x are taken %#x, %v", free, taken, ok)
		}
		if left != 0 && taken > left&-left {
			t.Errorf("of %#x are taken %#x, but %#x stay", free, taken, left)
		}
	}
}

// P14.1: masks of any bits, thin ones and thick ones.
func TestAtRandom(t *testing.T) {
	r := rand.New(rand.NewSource(41))
	enough := map[bool]int{}
	for range 20000 {
		mask := int(r.Uint64())
		switch r.Intn(3) {
		case 0:
			mask &= int(r.Uint64())
		case 1:
			mask |= int(r.Uint64())
		}
		n := r.Intn(36) - 2
		same(t, mask, n)
		enough[0 <= n && n <= len(nodesOf(mask))]++
	}
	if enough[true] < 5000 || enough[false] < 5000 {
		t.Error("too few of a kind", enough)
	}
}

// P14.1: held against the words.
func FuzzPool(f *testing.F) {
	f.Add(13, 2)
	f.Add(-1, 32)
	f.Add(1<<33|2, 1)
	f.Add(math.MinInt, math.MinInt)
	f.Add(math.MaxInt, math.MaxInt)
	f.Fuzz(func(t *testing.T, mask, n int) {
		same(t, mask, n)
		same(t, mask, n&63-8)
		allIs(t, n, whole>>(32-max(0, min(n, 32))))
	})
}
