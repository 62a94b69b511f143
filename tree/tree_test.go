package tree_test

import (
	"math"
	"math/big"
	"math/rand"
	"slices"
	"strings"
	"testing"

	"prebend/api"
	"prebend/tree"
)

const most = 1 << 60

func TestLimits(t *testing.T) {
	if api.MaxFunds != 8 || api.MaxName != 16 || api.MaxAmount != most {
		t.Error(api.MaxFunds, api.MaxName, api.MaxAmount)
	}
}

func fund(name string, parent, limit int) api.Fund {
	return api.Fund{Name: name, Parent: parent, Limit: limit}
}

func alloc(f, liened, spent int) api.Alloc {
	return api.Alloc{Fund: f, Liened: liened, Spent: spent}
}

// below: so many funds, with such parents.
func below(parents ...int) []api.Fund {
	var funds []api.Fund
	for i, p := range parents {
		funds = append(funds, fund(string(rune('a'+i)), p, 0))
	}
	return funds
}

// chain: so many funds, each below the one ahead of it.
func chain(n int) []api.Fund {
	var parents []int
	for i := range n {
		parents = append(parents, i-1)
	}
	return below(parents...)
}

// bank: a fund, one below it, one beside it, and one below the second.
func bank() []api.Fund {
	return []api.Fund{fund("a", -1, 20), fund("b", 0, 9), fund("c", -1, 0), fund("d", 1, most)}
}

// P8.1: Good, of funds that may be.
func TestGood(t *testing.T) {
	for i, funds := range [][]api.Fund{
		nil,
		{},
		bank(),
		chain(1),
		chain(7),
		chain(8),
		below(-1, -1, -1, -1, -1, -1, -1, -1),
		below(-1, 0, 0, 0, 3, 3, 3, 6),
		{fund("a", -1, 0)},
		{fund("a", -1, 1)},
		{fund("a", -1, most)},
		{fund("sixteen letters!", -1, 0)},
		// Names are bytes, of any kind, which only their equals are the same as.
		{fund("\x00", -1, 0), fund("\x00\x00", -1, 0), fund("\xff", -1, 0), fund("\xff\xfe", 0, 0)},
		{fund("a", -1, 0), fund("A", -1, 0), fund("a ", -1, 0), fund(" a", -1, 0), fund("aa", -1, 0), fund("ä", -1, 0)},
		{fund("sixteen letters!", -1, 0), fund("sixteen letters", -1, 0), fund("sixteen letters?", -1, 0)},
		{fund("€€€€€!", -1, 0)},
	} {
		if !tree.Good(funds) {
			t.Error(i, funds, "may be")
		}
	}
}

// P8.1: each of a fund's fields has its own ends, at each place.
func TestGoodFields(t *testing.T) {
	for place := range api.MaxFunds {
		for _, c := range []struct {
			what string
			turn func(f *api.Fund)
			good bool
		}{
			{"as it is", func(f *api.Fund) {}, true},
			{"no name", func(f *api.Fund) { f.Name = "" }, false},
			{"a name of 1 byte", func(f *api.Fund) { f.Name = "x" }, true},
			{"a name of 16 bytes", func(f *api.Fund) { f.Name = strings.Repeat("x", 16) }, true},
			{"a name of 17 bytes", func(f *api.Fund) { f.Name = strings.Repeat("x", 17) }, false},
			{"a name of 16 runes", func(f *api.Fund) { f.Name = strings.Repeat("ä", 16) }, false},
			{"a name of very many bytes", func(f *api.Fund) { f.Name = strings.Repeat("x", 1<<16+1) }, false},
			{"no parent", func(f *api.Fund) { f.Parent = -1 }, true},
			{"less than no parent", func(f *api.Fund) { f.Parent = -2 }, false},
			{"the least parent", func(f *api.Fund) { f.Parent = math.MinInt }, false},
			{"the place ahead", func(f *api.Fund) { f.Parent = place - 1 }, true},
			{"its own place", func(f *api.Fund) { f.Parent = place }, false},
			{"the place behind", func(f *api.Fund) { f.Parent = place + 1 }, false},
			{"no place", func(f *api.Fund) { f.Parent = api.MaxFunds }, false},
			{"the greatest parent", func(f *api.Fund) { f.Parent = math.MaxInt }, false},
			{"no limit", func(f *api.Fund) { f.Limit = 0 }, true},
			{"a limit of 1", func(f *api.Fund) { f.Limit = 1 }, true},
			{"the greatest limit that may be", func(f *api.Fund) { f.Limit = most }, true},
			{"one more", func(f *api.Fund) { f.Limit = most + 1 }, false},
			{"the greatest limit", func(f *api.Fund) { f.Limit = math.MaxInt }, false},
			{"a limit below 0", func(f *api.Fund) { f.Limit = -1 }, false},
			{"the least limit", func(f *api.Fund) { f.Limit = math.MinInt }, false},
		} {
			funds := chain(api.MaxFunds)
			c.turn(&funds[place])
			if tree.Good(funds) != c.good {
				t.Errorf("Good with %s at place %d should be %v", c.what, place, c.good)
			}
		}
	}
}

// P8.1: a name is no earlier fund's, however far that one is away.
func TestGoodNames(t *testing.T) {
	for _, name := range []string{"x", "sixteen letters!", "\x00", "\xff"} {
		for i := range api.MaxFunds {
			for k := range i {
				funds := chain(api.MaxFunds)
				funds[i].Name, funds[k].Name = name, name
				if tree.Good(funds) {
					t.Error(i, k, "have one name")
				}
				if i < api.MaxFunds-1 && tree.Good(funds[:i+1]) {
					t.Error(i, k, "have one name, and are the last")
				}
			}
		}
	}
}

// P8.1: there are at most 8.
func TestGoodMany(t *testing.T) {
	for n := range 20 {
		if tree.Good(chain(n)) != (n <= 8) {
			t.Error(n)
		}
	}
	if tree.Good(make([]api.Fund, 1000)) {
		t.Error("1000 funds without anything may not be")
	}
	if tree.Good(make([]api.Fund, 1)) {
		t.Error("a fund without anything may not be")
	}
}

// P8.1: Path, of funds that may be, and the chapter's example.
func TestPath(t *testing.T) {
	for _, c := range []struct {
		funds []api.Fund
		f     int
		want  []int
	}{
		{chain(3), 2, []int{2, 1, 0}},
		{chain(3), 1, []int{1, 0}},
		{chain(3), 0, []int{0}},
		{chain(8), 7, []int{7, 6, 5, 4, 3, 2, 1, 0}},
		{bank(), 3, []int{3, 1, 0}},
		{bank(), 2, []int{2}},
		{below(-1, 0, 0, 0, 3, 3, 3, 6), 7, []int{7, 6, 3, 0}},
		{below(-1, 0, 0, 0, 3, 3, 3, 6), 2, []int{2, 0}},
		{below(-1, -1, -1, 1), 3, []int{3, 1}},
		// There is no such fund.
		{nil, 0, nil},
		{nil, -1, nil},
		{[]api.Fund{}, 0, nil},
		{chain(3), 3, nil},
		{chain(3), -1, nil},
		{chain(3), math.MaxInt, nil},
		{chain(3), math.MinInt, nil},
		{chain(8), 8, nil},
	} {
		if l := tree.Path(c.funds, c.f); !slices.Equal(l, c.want) {
			t.Errorf("Path(%v, %d) is %v; it should be %v", c.funds, c.f, l, c.want)
		}
	}
}

// P8.1: Path, of funds that may not be: it ends where there is no fund, or the place is not less.
func TestPathOfBadFunds(t *testing.T) {
	for _, c := range []struct {
		parents []int
		f       int
		want    []int
	}{
		// Circles, of one, two and three.
		{[]int{0}, 0, []int{0}},
		{[]int{-1, 1}, 1, []int{1}},
		{[]int{1, 0}, 0, []int{0}},
		{[]int{1, 0}, 1, []int{1, 0}},
		{[]int{2, 0, 1}, 2, []int{2, 1, 0}},
		{[]int{2, 0, 1}, 1, []int{1, 0}},
		{[]int{1, 2, 0}, 2, []int{2, 0}},
		{[]int{-1, 2, 1}, 2, []int{2, 1}},
		// A parent behind its fund, though there is a fund at that place.
		{[]int{3, -1, -1, -1}, 0, []int{0}},
		{[]int{-1, 3, 1, -1}, 2, []int{2, 1}},
		// The place is less than the first one's, but not than the one's ahead of it.
		{[]int{2, -1, -1, 0}, 3, []int{3, 0}},
		{[]int{-1, 1, -1, 1}, 3, []int{3, 1}},
		// No fund is there.
		{[]int{7}, 0, []int{0}},
		{[]int{1}, 0, []int{0}},
		{[]int{-2, 0}, 1, []int{1, 0}},
		{[]int{math.MinInt, 0}, 1, []int{1, 0}},
		{[]int{math.MaxInt, 0}, 1, []int{1, 0}},
		{[]int{-1, 0, math.MinInt}, 2, []int{2}},
	} {
		if l := tree.Path(below(c.parents...), c.f); !slices.Equal(l, c.want) {
			t.Errorf("Path of parents %v from %d is %v; it should be %v", c.parents, c.f, l, c.want)
		}
	}
}

// P8.1: Path asks of nothing but parents; there may be more funds than may be.
func TestPathOfMany(t *testing.T) {
	funds := make([]api.Fund, 1000)
	for i := range funds {
		funds[i] = fund("", i-1, -5)
	}
	l := tree.Path(funds, 999)
	if len(l) != 1000 {
		t.Fatal(len(l))
	}
	for i, f := range l {
		if f != 999-i {
			t.Fatal(i, f)
		}
	}
	// Those without anything are all below the first one, as it is below itself.
	if l := tree.Path(make([]api.Fund, 9), 8); !slices.Equal(l, []int{8, 0}) {
		t.Error(l)
	}
}

// useIs: Use answers that.
func useIs(t *testing.T, funds []api.Fund, allocs []api.Alloc, f, want int, wantE api.Errno) {
	t.Helper()
	if n, e := tree.Use(funds, allocs, f); n != want || e != wantE {
		t.Errorf("Use(%v, %v, %d) is %d, %d; it should be %d, %d", funds, allocs, f, n, e, want, wantE)
	}
}

// P8.2: Use, and the chapter's example.
func TestUse(t *testing.T) {
	for f := range 3 {
		useIs(t, chain(3), []api.Alloc{alloc(2, 5, 7)}, f, 12, api.OK)
	}
	allocs := []api.Alloc{alloc(3, 2, 4), alloc(0, 5, 0), alloc(2, 0, 1), alloc(1, 100, 1000), alloc(3, 10000, 0)}
	for f, want := range []int{11111, 11106, 1, 10006} {
		useIs(t, bank(), allocs, f, want, api.OK)
		useIs(t, bank(), nil, f, 0, api.OK)
		useIs(t, bank(), []api.Alloc{}, f, 0, api.OK)
	}
	for _, f := range []int{-1, 4, 5, math.MinInt, math.MaxInt} {
		useIs(t, bank(), allocs, f, 0, api.ErrNone)
		useIs(t, bank(), nil, f, 0, api.ErrNone)
		useIs(t, nil, allocs, f, 0, api.ErrNone)
	}
	useIs(t, nil, nil, 0, 0, api.ErrNone)
}

// P8.2: nothing else of an allocation counts.
func TestUseOfOtherFields(t *testing.T) {
	a := api.Alloc{Fund: 1, From: 1, Until: math.MaxInt, Avail: math.MaxInt, Liened: 30, Spent: 4}
	useIs(t, bank(), []api.Alloc{a}, 0, 34, api.OK)
	a.From, a.Until, a.Avail = math.MaxInt, math.MinInt, math.MinInt
	useIs(t, bank(), []api.Alloc{a}, 1, 34, api.OK)
}

// P8.2: allocations of no fund, and of those beside, are nobody's here, whatever they have.
func TestUseOfOthers(t *testing.T) {
	for _, f := range []int{-1, 4, 9, math.MinInt, math.MaxInt, 2} {
		allocs := []api.Alloc{alloc(f, math.MaxInt, math.MinInt), alloc(3, 1, 2), alloc(f, most, most)}
		useIs(t, bank(), allocs, 0, 3, api.OK)
		useIs(t, bank(), allocs, 1, 3, api.OK)
		useIs(t, bank(), allocs, 3, 3, api.OK)
	}
	allocs := []api.Alloc{alloc(0, most, 1), alloc(1, 1, 2)}
	// What is above a fund is not of it.
	useIs(t, bank(), allocs, 1, 3, api.OK)
	useIs(t, bank(), allocs, 3, 0, api.OK)
	useIs(t, bank(), allocs, 0, 0, api.ErrOver)
}

// P8.2: Use goes by Path, of funds that may not be too.
func TestUseOfBadFunds(t *testing.T) {
	circle := below(1, 0)
	allocs := []api.Alloc{alloc(0, 1, 2), alloc(1, 10, 20)}
	useIs(t, circle, allocs, 0, 33, api.OK)
	useIs(t, circle, allocs, 1, 30, api.OK)
	itself := below(0, 1)
	useIs(t, itself, allocs, 0, 3, api.OK)
	useIs(t, itself, allocs, 1, 30, api.OK)
	behind := below(2, -1, -1)
	useIs(t, behind, allocs, 2, 0, api.OK)
	// More funds, and more allocations, than may be, without names, with any limits.
	funds := make([]api.Fund, 100)
	allocs = nil
	for i := range funds {
		funds[i] = fund("", i-1, -i)
		allocs = append(allocs, alloc(i, 1, 1000))
	}
	useIs(t, funds, allocs, 0, 100100, api.OK)
	useIs(t, funds, allocs, 99, 1001, api.OK)
}

// P8.2: each amount, and each sum of the first ones, has to fit, in the order in which they stand.
func TestUseOver(t *testing.T) {
	for _, c := range []struct {
		allocs []api.Alloc
		want   int
		e      api.Errno
	}{
		{[]api.Alloc{alloc(0, most, 0)}, most, api.OK},
		{[]api.Alloc{alloc(0, 0, most)}, most, api.OK},
		{[]api.Alloc{alloc(0, -most, 0)}, -most, api.OK},
		{[]api.Alloc{alloc(0, most-1, 1)}, most, api.OK},
		{[]api.Alloc{alloc(0, most, 1)}, 0, api.ErrOver},
		{[]api.Alloc{alloc(0, most+1, 0)}, 0, api.ErrOver},
		{[]api.Alloc{alloc(0, 0, most+1)}, 0, api.ErrOver},
		{[]api.Alloc{alloc(0, -most-1, 0)}, 0, api.ErrOver},
		{[]api.Alloc{alloc(0, -most, -1)}, 0, api.ErrOver},
		{[]api.Alloc{alloc(0, math.MaxInt, math.MaxInt)}, 0, api.ErrOver},
		{[]api.Alloc{alloc(0, math.MinInt, math.MinInt)}, 0, api.ErrOver},
		{[]api.Alloc{alloc(0, math.MinInt, math.MaxInt)}, 0, api.ErrOver},
		{[]api.Alloc{alloc(0, most+1, -1)}, 0, api.ErrOver},
		// Of two, the end of the sum does not tell: its first ones do.
		{[]api.Alloc{alloc(0, most, 0), alloc(0, 1, 0)}, 0, api.ErrOver},
		{[]api.Alloc{alloc(0, most, 0), alloc(0, 1, -1)}, 0, api.ErrOver},
		{[]api.Alloc{alloc(0, most, 0), alloc(0, -1, 1)}, most, api.OK},
		{[]api.Alloc{alloc(0, most, -1), alloc(0, 1, 0)}, most, api.OK},
		{[]api.Alloc{alloc(0, most, -1), alloc(0, 2, -2)}, 0, api.ErrOver},
		{[]api.Alloc{alloc(0, -1, most), alloc(0, 1, 0)}, most, api.OK},
		// One's Liened comes ahead of its Spent, and of the next one's Liened.
		{[]api.Alloc{alloc(0, -1, most), alloc(0, 2, -1)}, 0, api.ErrOver},
		{[]api.Alloc{alloc(0, -1, 0), alloc(0, most, 1)}, most, api.OK},
		{[]api.Alloc{alloc(0, most, 1), alloc(0, -1, 0)}, 0, api.ErrOver},
		{[]api.Alloc{alloc(0, most, -most), alloc(0, 7, 0)}, 7, api.OK},
	} {
		useIs(t, bank(), c.allocs, 0, c.want, c.e)
		// So it is, if they are of a fund below.
		for i := range c.allocs {
			c.allocs[i].Fund = 3
		}
		useIs(t, bank(), c.allocs, 0, c.want, c.e)
	}
}

// overIs: Over answers that.
func overIs(t *testing.T, funds []api.Fund, allocs []api.Alloc, want int) {
	t.Helper()
	if f := tree.Over(funds, allocs); f != want {
		t.Errorf("Over(%v, %v) is %d; it should be %d", funds, allocs, f, want)
	}
}

// P8.2: Over.
func TestOver(t *testing.T) {
	overIs(t, nil, nil, -1)
	overIs(t, nil, []api.Alloc{alloc(0, most, most)}, -1)
	overIs(t, bank(), nil, -1)
	overIs(t, bank(), []api.Alloc{alloc(3, 4, 5)}, -1)
	overIs(t, bank(), []api.Alloc{alloc(3, 4, 6)}, 1)
	overIs(t, bank(), []api.Alloc{alloc(3, 10, 0)}, 1)
	overIs(t, bank(), []api.Alloc{alloc(3, 0, 10)}, 1)
	overIs(t, bank(), []api.Alloc{alloc(0, 10, 10)}, -1)
	overIs(t, bank(), []api.Alloc{alloc(0, 10, 11)}, 0)
	overIs(t, bank(), []api.Alloc{alloc(1, 5, 0), alloc(3, 4, 0)}, -1)
	overIs(t, bank(), []api.Alloc{alloc(1, 5, 0), alloc(3, 5, 0)}, 1)
	// Of several, the first one.
	overIs(t, bank(), []api.Alloc{alloc(1, 21, 0)}, 0)
	// No limit: whatever is used.
	overIs(t, bank(), []api.Alloc{alloc(2, most, most)}, -1)
	overIs(t, below(-1, 0), []api.Alloc{alloc(1, math.MaxInt, 1)}, -1)
	// Below 0 there is no limit either.
	overIs(t, []api.Fund{fund("a", -1, -1), fund("b", -1, math.MinInt)}, []api.Alloc{alloc(0, 1, 0), alloc(1, most, most)}, -1)
}

// P8.2: a Use that does not fit is more than any limit, whether or not the limit may be.
func TestOverOfErrOver(t *testing.T) {
	for _, limit := range []int{1, most, most + 1, math.MaxInt} {
		funds := []api.Fund{fund("a", -1, 0), fund("b", 0, limit)}
		overIs(t, funds, []api.Alloc{alloc(1, most, 1)}, 1)
		overIs(t, funds, []api.Alloc{alloc(1, most+1, -most)}, 1)
		overIs(t, funds, []api.Alloc{alloc(1, -most-1, 0)}, 1)
		overIs(t, funds, []api.Alloc{alloc(0, most, 1)}, -1)
		overIs(t, funds, []api.Alloc{alloc(1, -most, 0)}, -1)
	}
}

// P8.2: a limit at its ends.
func TestOverAtEnds(t *testing.T) {
	for _, limit := range []int{1, 2, most - 1, most} {
		for place := range api.MaxFunds {
			funds := chain(api.MaxFunds)
			funds[place].Limit = limit
			for last := range api.MaxFunds {
				overIs(t, funds, []api.Alloc{alloc(last, limit, 0)}, -1)
				overIs(t, funds, []api.Alloc{alloc(last, 1, limit-1)}, -1)
				want := -1
				if last >= place {
					want = place
				}
				overIs(t, funds, []api.Alloc{alloc(last, 1, limit)}, want)
			}
		}
	}
}

// The words of the chapter, one by one, with whole numbers without bound.

func mayBe(funds []api.Fund) bool {
	good := len(funds) <= 8
	for i, f := range funds {
		good = good && len(f.Name) >= 1 && len(f.Name) <= 16
		for k := 0; k < i; k++ {
			good = good && funds[k].Name != f.Name
		}
		good = good && f.Parent >= -1 && f.Parent <= i-1
		good = good && f.Limit >= 0 && f.Limit <= most
	}
	return good
}

func pathOf(funds []api.Fund, f int) []int {
	if f < 0 || f >= len(funds) {
		return nil
	}
	if funds[f].Parent >= f {
		return []int{f}
	}
	return append([]int{f}, pathOf(funds, funds[f].Parent)...)
}

func useOf(funds []api.Fund, allocs []api.Alloc, f int) (int, api.Errno) {
	if f < 0 || f >= len(funds) {
		return 0, api.ErrNone
	}
	end := big.NewInt(most)
	sum := new(big.Int)
	for _, a := range allocs {
		if !slices.Contains(pathOf(funds, a.Fund), f) {
			continue
		}
		for _, n := range []int{a.Liened, a.Spent} {
			one := big.NewInt(int64(n))
			sum.Add(sum, one)
			if one.CmpAbs(end) > 0 || sum.CmpAbs(end) > 0 {
				return 0, api.ErrOver
			}
		}
	}
	return int(sum.Int64()), api.OK
}

func overOf(funds []api.Fund, allocs []api.Alloc) int {
	for f := range funds {
		if n, e := useOf(funds, allocs, f); funds[f].Limit > 0 && (e != api.OK || n > funds[f].Limit) {
			return f
		}
	}
	return -1
}

// same: all four calls answer what the words ask for, and change nothing (R4).
func same(t *testing.T, funds []api.Fund, allocs []api.Alloc) {
	t.Helper()
	funds, allocs = roomy(funds), roomy(allocs)
	f, a := slices.Clone(funds[:cap(funds)]), slices.Clone(allocs[:cap(allocs)])
	if tree.Good(funds) != mayBe(funds) {
		t.Errorf("Good(%v) should be %v", funds, mayBe(funds))
	}
	for _, i := range append([]int{math.MinInt, -2, -1, len(funds), len(funds) + 1, math.MaxInt}, places(len(funds))...) {
		if l := tree.Path(funds, i); !slices.Equal(l, pathOf(funds, i)) {
			t.Errorf("Path(%v, %d) is %v; it should be %v", funds, i, l, pathOf(funds, i))
		}
		want, e := useOf(funds, allocs, i)
		useIs(t, funds, allocs, i, want, e)
	}
	overIs(t, funds, allocs, overOf(funds, allocs))
	if !slices.Equal(funds[:cap(funds)], f) || !slices.Equal(allocs[:cap(allocs)], a) {
		t.Error("what was handed in was changed", funds, allocs)
	}
}

// roomy: a list with spare room, which has something.
func roomy[T any](list []T) []T {
	long := append(slices.Clone(list), list...)
	return long[:len(list)]
}

func places(n int) []int {
	var list []int
	for i := range n {
		list = append(list, i)
	}
	return list
}

// P8.1, P8.2: all parents of up to 4 funds, each from two below 0 to one behind the last one.
func TestAllParents(t *testing.T) {
	for n := range 5 {
		parents := make([]int, n)
		total := 1
		for range n {
			total *= n + 3
		}
		for number := range total {
			rest := number
			for i := range parents {
				parents[i] = rest%(n+3) - 2
				rest /= n + 3
			}
			funds := below(parents...)
			var allocs []api.Alloc
			for i := range funds {
				funds[i].Limit = number % (3 + 7*i)
				allocs = append(allocs, alloc(i, i, 1+i))
			}
			same(t, funds, allocs)
		}
	}
}

// P8.1, P8.2: trees and allocations of any kind, good ones and bad ones.
func TestAtRandom(t *testing.T) {
	r := rand.New(rand.NewSource(8))
	names := []string{"a", "b", "c", "d", "e", "f", "g", "h", "", "sixteen letters!", "seventeen letters"}
	numbers := []int{0, 0, 1, 2, 5, 9, most / 2, most - 1, most, most + 1, -1, -5, -most, -most - 1, math.MaxInt, math.MinInt}
	pick := func(wild bool) int {
		if wild {
			return numbers[r.Intn(len(numbers))]
		}
		return r.Intn(8)
	}
	for range 20000 {
		wild := r.Intn(2) == 0
		funds := chain(r.Intn(10))
		for i := range funds {
			funds[i].Parent = r.Intn(i+1) - 1
			funds[i].Limit = pick(false) * 2
			if wild && r.Intn(8) == 0 {
				funds[i] = fund(names[r.Intn(len(names))], r.Intn(14)-3, pick(true))
			}
		}
		var allocs []api.Alloc
		for range r.Intn(8) {
			allocs = append(allocs, api.Alloc{Fund: r.Intn(11) - 1, Avail: pick(true), Liened: pick(wild && r.Intn(2) == 0), Spent: pick(wild && r.Intn(2) == 0)})
		}
		same(t, funds, allocs)
	}
}

// R4: a Path is new memory, spare room included; Over's and Use's answers are numbers.
func TestPathIsNew(t *testing.T) {
	funds := chain(5)
	a, b := tree.Path(funds, 4), tree.Path(funds, 4)
	for _, l := range [][]int{a, a[:cap(a)]} {
		for i := range l {
			l[i] = 77
		}
	}
	if !slices.Equal(b, []int{4, 3, 2, 1, 0}) || !slices.Equal(tree.Path(funds, 4), b) {
		t.Error(b)
	}
	if !slices.Equal(funds, chain(5)) {
		t.Error(funds)
	}
}

// P8.1, P8.2: held against the words.
func FuzzTree(f *testing.F) {
	f.Add([]byte("\x00\x01\x05\x00\x02\x03\x01\x01\x00\x02\x01\x02"), uint8(3))
	f.Add([]byte("aaabbbcccdddeeefffggghhhiii"), uint8(9))
	f.Add([]byte{0, 0, 0, 255, 255, 255, 128, 128, 128}, uint8(1))
	f.Fuzz(func(t *testing.T, b []byte, n uint8) {
		number := func(c byte) int {
			if c < 128 {
				return int(c%16) - 2
			}
			return (int(c)%5-2)<<60 + int(c/5%5) - 2
		}
		var funds []api.Fund
		var allocs []api.Alloc
		for three := range slices.Chunk(b[:min(len(b), 90)], 3) {
			for len(three) < 3 {
				three = append(three, 0)
			}
			if len(funds) < int(n%11) {
				name := strings.Repeat(string(rune('a'+three[0]%16)), int(three[0]/16)+1)
				funds = append(funds, fund(name, number(three[1]), number(three[2])))
			} else {
				allocs = append(allocs, alloc(number(three[0]), number(three[1]), number(three[2])))
			}
		}
		same(t, funds, allocs)
	})
}
