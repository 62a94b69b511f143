package money_test

import (
	"math"
	"math/big"
	"slices"
	"testing"

	"prebend/api"
	"prebend/money"
)

const most = api.MaxAmount

type reckoning struct {
	list []int
	n    int
	e    api.Errno
}

func testAll(t *testing.T, name string, f func(...int) (int, api.Errno), cases []reckoning) {
	t.Helper()
	for _, c := range cases {
		if n, e := f(c.list...); n != c.n || e != c.e {
			t.Errorf("%s%v is %d, %d; it should be %d, %d", name, c.list, n, e, c.n, c.e)
		}
	}
}

func TestMostIsTwoToThe60(t *testing.T) {
	if most != 1152921504606846976 {
		t.Error(most)
	}
}

// P1.1, the sums.
func TestAdd(t *testing.T) {
	testAll(t, "Add", money.Add, []reckoning{
		{nil, 0, api.OK},
		{[]int{}, 0, api.OK},
		{[]int{0}, 0, api.OK},
		{[]int{7}, 7, api.OK},
		{[]int{-7}, -7, api.OK},
		{[]int{5, -7, 4}, 2, api.OK},
		{[]int{1, 2, 3, 4, 5, 6, 7, 8, 9, 10}, 55, api.OK},

		{[]int{most}, most, api.OK},
		{[]int{-most}, -most, api.OK},
		{[]int{most, 0}, most, api.OK},
		{[]int{most - 1, 1}, most, api.OK},
		{[]int{-most + 1, -1}, -most, api.OK},
		{[]int{most, -most}, 0, api.OK},
		{[]int{most, -most, -most, most, most}, most, api.OK},

		{[]int{most + 1}, 0, api.ErrOver},
		{[]int{-most - 1}, 0, api.ErrOver},
		{[]int{most, 1}, 0, api.ErrOver},
		{[]int{-most, -1}, 0, api.ErrOver},
		{[]int{most / 2, most/2 + 1}, 0, api.ErrOver},
		{[]int{most, most, most, most, most, most, most, most, most}, 0, api.ErrOver},

		// The first ones do not fit, though all of it would.
		{[]int{most, 1, -1}, 0, api.ErrOver},
		{[]int{-most, -1, 1}, 0, api.ErrOver},
		{[]int{0, most, most, -most, -most}, 0, api.ErrOver},
		// One of them does not fit, though the sums would.
		{[]int{-1, most + 1}, 0, api.ErrOver},
		{[]int{1, -most - 1}, 0, api.ErrOver},
		{[]int{-most, most + 1, -1}, 0, api.ErrOver},

		{[]int{math.MaxInt}, 0, api.ErrOver},
		{[]int{math.MinInt}, 0, api.ErrOver},
		{[]int{math.MaxInt, math.MinInt, 1}, 0, api.ErrOver},
		{[]int{math.MinInt, math.MinInt}, 0, api.ErrOver},
		{[]int{-most, math.MaxInt}, 0, api.ErrOver},
		{[]int{most, math.MinInt}, 0, api.ErrOver},
	})
}

// P1.1, the products.
func TestMul(t *testing.T) {
	testAll(t, "Mul", money.Mul, []reckoning{
		{nil, 1, api.OK},
		{[]int{}, 1, api.OK},
		{[]int{0}, 0, api.OK},
		{[]int{7}, 7, api.OK},
		{[]int{-7}, -7, api.OK},
		{[]int{5, -7, 4}, -140, api.OK},
		{[]int{-5, -7, -4}, -140, api.OK},
		{[]int{1, 2, 3, 4, 5, 6, 7, 8, 9, 10}, 3628800, api.OK},

		{[]int{most}, most, api.OK},
		{[]int{-most}, -most, api.OK},
		{[]int{most, 1}, most, api.OK},
		{[]int{most, -1}, -most, api.OK},
		{[]int{-most, -1}, most, api.OK},
		{[]int{-1, -1, -1, most}, -most, api.OK},
		{[]int{1 << 30, 1 << 30}, most, api.OK},
		{[]int{-1 << 30, 1 << 30}, -most, api.OK},
		{[]int{1 << 20, -1 << 20, -1 << 20}, most, api.OK},
		{[]int{0, most, most}, 0, api.OK},
		{[]int{most, 0, most, -most}, 0, api.OK},

		{[]int{most + 1}, 0, api.ErrOver},
		{[]int{-most - 1}, 0, api.ErrOver},
		{[]int{most, 2}, 0, api.ErrOver},
		{[]int{2, -most}, 0, api.ErrOver},
		{[]int{most/2 + 1, 2}, 0, api.ErrOver},
		{[]int{-2, most/2 + 1}, 0, api.ErrOver},
		{[]int{1<<30 + 1, 1 << 30}, 0, api.ErrOver},
		// 2^60 + 1 is 17 times this.
		{[]int{17, 67818912035696881}, 0, api.ErrOver},
		{[]int{17, -67818912035696881}, 0, api.ErrOver},
		{[]int{17, 67818912035696880}, most - 16, api.OK},
		// Products that go round to what would fit.
		{[]int{1 << 32, 1 << 32}, 0, api.ErrOver},
		{[]int{most, 16}, 0, api.ErrOver},
		{[]int{most, most, most}, 0, api.ErrOver},

		// The first ones do not fit, though all of it would.
		{[]int{1 << 31, 1 << 30, 0}, 0, api.ErrOver},
		{[]int{-1 << 31, 1 << 30, 0}, 0, api.ErrOver},
		// One of them does not fit, though the products would.
		{[]int{0, most + 1}, 0, api.ErrOver},
		{[]int{0, -most - 1}, 0, api.ErrOver},
		{[]int{most + 1, 0}, 0, api.ErrOver},

		{[]int{math.MaxInt}, 0, api.ErrOver},
		{[]int{math.MinInt}, 0, api.ErrOver},
		{[]int{0, math.MinInt}, 0, api.ErrOver},
		{[]int{-1, math.MinInt}, 0, api.ErrOver},
		{[]int{math.MinInt, math.MinInt}, 0, api.ErrOver},
	})
}

// P1.2.
func TestCost(t *testing.T) {
	for _, c := range []struct {
		nodes, ticks, price int
		n                   int
		e                   api.Errno
	}{
		{3, 4, 5, 60, api.OK},
		{3, 10, 2, 60, api.OK},
		{1, 1, 1, 1, api.OK},
		{0, 4, 5, 0, api.OK},
		{3, 0, 5, 0, api.OK},
		{3, 4, 0, 0, api.OK},
		{0, 0, 0, 0, api.OK},
		{32, 1 << 20, 1 << 35, most, api.OK},
		{most, 1, 1, most, api.OK},
		{1, most, 1, most, api.OK},
		{1, 1, most, most, api.OK},

		{-1, 4, 5, 0, api.ErrArg},
		{3, -1, 5, 0, api.ErrArg},
		{3, 4, -1, 0, api.ErrArg},
		{-3, -4, 5, 0, api.ErrArg},
		{0, 0, -1, 0, api.ErrArg},
		{math.MinInt, 0, 0, 0, api.ErrArg},
		{0, math.MinInt, 0, 0, api.ErrArg},
		{0, 0, math.MinInt, 0, api.ErrArg},
		// Below 0 is told ahead of what does not fit.
		{most, most, -1, 0, api.ErrArg},
		{-1, math.MaxInt, 1, 0, api.ErrArg},
		{math.MaxInt, -1, 1, 0, api.ErrArg},

		{32, 1 << 20, 1<<35 + 1, 0, api.ErrOver},
		{32, 1 << 20, 1 << 40, 0, api.ErrOver},
		{most + 1, 1, 1, 0, api.ErrOver},
		{1, most + 1, 1, 0, api.ErrOver},
		{1, 1, most + 1, 0, api.ErrOver},
		{0, 0, most + 1, 0, api.ErrOver},
		{math.MaxInt, math.MaxInt, math.MaxInt, 0, api.ErrOver},
		// The order: the first two alone do not fit; with the 0 among them they do.
		{1 << 31, 1 << 30, 0, 0, api.ErrOver},
		{1 << 31, 0, 1 << 30, 0, api.OK},
		{0, 1 << 31, 1 << 30, 0, api.OK},
	} {
		if n, e := money.Cost(c.nodes, c.ticks, c.price); n != c.n || e != c.e {
			t.Errorf("Cost(%d, %d, %d) is %d, %d; it should be %d, %d", c.nodes, c.ticks, c.price, n, e, c.n, c.e)
		}
	}
}

var ends = []int{
	0, 1, -1, 2, -2, 3, -17, 1 << 20, 1 << 30, -1 << 30, 1<<30 + 1, 1 << 31, 1 << 32, -1 << 34,
	67818912035696881, most / 2, -most / 2, most/2 + 1, most - 1, -most + 1, most, -most, most + 1, -most - 1,
	1 << 61, 1 << 62, math.MaxInt - 1, math.MaxInt, math.MinInt, math.MinInt + 1,
}

// without: what reckoning by f without bound comes to, from first on.
func without(first int64, list []int, f func(z, x, y *big.Int) *big.Int) (int, api.Errno) {
	bound := new(big.Int).Lsh(big.NewInt(1), 60)
	z := big.NewInt(first)
	for _, n := range list {
		x := big.NewInt(int64(n))
		f(z, z, x)
		if x.CmpAbs(bound) > 0 || z.CmpAbs(bound) > 0 {
			return 0, api.ErrOver
		}
	}
	return int(z.Int64()), api.OK
}

func testWithout(t *testing.T, list []int) {
	t.Helper()
	given := slices.Clone(list)
	m, d := without(0, list, (*big.Int).Add)
	if n, e := money.Add(given...); n != m || e != d {
		t.Errorf("Add%v is %d, %d; without bound %d, %d", list, n, e, m, d)
	}
	m, d = without(1, list, (*big.Int).Mul)
	if n, e := money.Mul(given...); n != m || e != d {
		t.Errorf("Mul%v is %d, %d; without bound %d, %d", list, n, e, m, d)
	}
	if !slices.Equal(given, list) {
		t.Errorf("%v was changed to %v", list, given)
	}
}

// P1.1: all lists of up to three numbers at their ends, held against whole numbers without bound.
func TestAgainstNumbersWithoutBound(t *testing.T) {
	testWithout(t, nil)
	for _, a := range ends {
		testWithout(t, []int{a})
		for _, b := range ends {
			testWithout(t, []int{a, b})
			for _, c := range ends {
				testWithout(t, []int{a, b, c})
			}
		}
	}
}

// P1.2: Cost is Mul of the three, in this order, but for those below 0.
func TestCostAgainstMul(t *testing.T) {
	for _, a := range ends {
		for _, b := range ends {
			for _, c := range ends {
				m, d := without(1, []int{a, b, c}, (*big.Int).Mul)
				if min(a, b, c) < 0 {
					m, d = 0, api.ErrArg
				}
				if n, e := money.Cost(a, b, c); n != m || e != d {
					t.Errorf("Cost(%d, %d, %d) is %d, %d; it should be %d, %d", a, b, c, n, e, m, d)
				}
			}
		}
	}
}
