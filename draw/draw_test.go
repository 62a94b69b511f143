package draw_test

import (
	"math"
	"math/big"
	"math/rand"
	"slices"
	"testing"

	"prebend/api"
	"prebend/draw"
	"prebend/ledger"
)

const most = 1 << 60

// draws: of each two numbers the allocation, and the amount.
func draws(numbers ...int) []api.Draw {
	var list []api.Draw
	for two := range slices.Chunk(numbers, 2) {
		list = append(list, api.Draw{Alloc: two[0], Amount: two[1]})
	}
	return list
}

// legs: of each two numbers the account, and the amount.
func legs(numbers ...int) []api.Leg {
	var list []api.Leg
	for two := range slices.Chunk(numbers, 2) {
		list = append(list, api.Leg{Acct: two[0], Amount: two[1]})
	}
	return list
}

// below: so many funds, with such parents.
func below(parents ...int) []api.Fund {
	var funds []api.Fund
	for i, p := range parents {
		funds = append(funds, api.Fund{Name: string(rune('a' + i)), Parent: p})
	}
	return funds
}

// alloc: one that is good from 0 on.
func alloc(f, until, avail int) api.Alloc {
	return api.Alloc{Fund: f, Until: until, Avail: avail}
}

// one: a fund that has no other one above it.
func one() []api.Fund { return below(-1) }

// drawsAre: Draws answers these.
func drawsAre(t *testing.T, funds []api.Fund, allocs []api.Alloc, f, amount, now int, want ...int) {
	t.Helper()
	d, e := draw.Draws(funds, allocs, f, amount, now)
	if e != api.OK || !slices.Equal(d, draws(want...)) {
		t.Errorf("Draws(%v, %v, %d, %d, %d) is %v, %d; it should be %v", funds, allocs, f, amount, now, d, e, want)
	}
}

// noDraws: Draws answers that error, and nothing else.
func noDraws(t *testing.T, funds []api.Fund, allocs []api.Alloc, f, amount, now int, want api.Errno) {
	t.Helper()
	if d, e := draw.Draws(funds, allocs, f, amount, now); len(d) != 0 || e != want {
		t.Errorf("Draws(%v, %v, %d, %d, %d) is %v, %d; it should be error %d", funds, allocs, f, amount, now, d, e, want)
	}
}

// chargeIs: Charge answers these.
func chargeIs(t *testing.T, list []api.Draw, amount int, want ...int) {
	t.Helper()
	if d, e := draw.Charge(list, amount); e != api.OK || !slices.Equal(d, draws(want...)) {
		t.Errorf("Charge(%v, %d) is %v, %d; it should be %v", list, amount, d, e, want)
	}
}

// noCharge: Charge answers that error, and nothing else.
func noCharge(t *testing.T, list []api.Draw, amount int, want api.Errno) {
	t.Helper()
	if d, e := draw.Charge(list, amount); len(d) != 0 || e != want {
		t.Errorf("Charge(%v, %d) is %v, %d; it should be error %d", list, amount, d, e, want)
	}
}

// totalIs: Total answers that.
func totalIs(t *testing.T, list []api.Draw, want int, wantE api.Errno) {
	t.Helper()
	if n, e := draw.Total(list); n != want || e != wantE {
		t.Errorf("Total(%v) is %d, %d; it should be %d, %d", list, n, e, want, wantE)
	}
}

// legsAre: these legs, and no others.
func legsAre(t *testing.T, what string, got []api.Leg, want ...int) {
	t.Helper()
	if !slices.Equal(got, legs(want...)) {
		t.Errorf("%s is %v; it should be %v", what, got, want)
	}
}

// P11.1: the chapter's example.
func TestExample(t *testing.T) {
	drawsAre(t, one(), []api.Alloc{alloc(0, 9, 5), alloc(0, 4, 5)}, 0, 7, 0, 1, 5, 0, 2)
}

// P11.1: there is no such fund; an amount below 0; too little: in this order.
func TestDrawsErrors(t *testing.T) {
	allocs := []api.Alloc{alloc(0, 9, 5), alloc(1, 9, 5), alloc(-1, 9, 5), alloc(2, 9, 5), alloc(math.MaxInt, 9, 5), alloc(math.MinInt, 9, 5)}
	two := below(-1, 0)
	for _, f := range []int{-1, -2, 2, 3, math.MaxInt, math.MinInt} {
		for _, amount := range []int{0, 1, 5, 1000, -1, math.MaxInt, math.MinInt} {
			noDraws(t, two, allocs, f, amount, 0, api.ErrNone)
			noDraws(t, nil, allocs, f, amount, 0, api.ErrNone)
			noDraws(t, nil, nil, f, amount, 0, api.ErrNone)
		}
	}
	noDraws(t, nil, allocs, 0, 1, 0, api.ErrNone)
	noDraws(t, []api.Fund{}, allocs, 0, 1, 0, api.ErrNone)
	// What stands in a list's spare room is no fund, and no allocation, of it.
	noDraws(t, two[:1], allocs, 1, 1, 0, api.ErrNone)
	noDraws(t, two, allocs[:0], 1, 1, 0, api.ErrFunds)
	for f := range 2 {
		for _, amount := range []int{-1, -5, -most, math.MinInt} {
			noDraws(t, two, allocs, f, amount, 0, api.ErrArg)
			noDraws(t, two, nil, f, amount, 0, api.ErrArg)
			noDraws(t, two, allocs, f, amount, 100, api.ErrArg)
		}
		for _, amount := range []int{11, 12, most, most + 1, math.MaxInt} {
			noDraws(t, two, allocs, f, amount, 0, api.ErrFunds)
			noDraws(t, two, nil, f, amount, 0, api.ErrFunds)
		}
		noDraws(t, two, nil, f, 1, 0, api.ErrFunds)
		noDraws(t, two, []api.Alloc{}, f, 1, 0, api.ErrFunds)
		noDraws(t, two, allocs, f, 1, 9, api.ErrFunds)
	}
	noDraws(t, two, allocs, 0, 6, 0, api.ErrFunds)
	drawsAre(t, two, allocs, 0, 5, 0, 0, 5)
	drawsAre(t, two, allocs, 1, 10, 0, 1, 5, 0, 5)
}

// P11.1: an allocation is open from its From on, ahead of its Until.
func TestDrawsOpen(t *testing.T) {
	for _, c := range []struct{ from, until int }{{0, 1}, {0, 9}, {4, 9}, {-5, 9}, {-9, -3}, {5, 5}, {6, 4}, {0, math.MaxInt}, {math.MinInt, 0}, {math.MinInt, math.MaxInt}, {1 << 40, 1<<40 + 1}, {math.MaxInt - 1, math.MaxInt}} {
		allocs := []api.Alloc{{From: c.from, Until: c.until, Avail: 5}}
		for _, edge := range []int{c.from, c.until, 0, math.MinInt + 2, math.MaxInt - 2} {
			for by := -2; by <= 2; by++ {
				// An edge at the ends of numbers goes round here, to another tick.
				now := edge + by
				if c.from <= now && now < c.until {
					drawsAre(t, one(), allocs, 0, 4, now, 0, 4)
				} else {
					noDraws(t, one(), allocs, 0, 4, now, api.ErrFunds)
					drawsAre(t, one(), allocs, 0, 0, now)
				}
			}
		}
	}
}

// P11.1: an allocation is open if it has anything available; what it has liened, and spent, is nothing to it.
func TestDrawsAvail(t *testing.T) {
	for _, n := range []int{0, -1, -5, -most, math.MinInt} {
		allocs := []api.Alloc{{Until: 9, Avail: n, Liened: 7, Spent: 7}, {Until: 9, Avail: 3, Liened: -7, Spent: -7}}
		drawsAre(t, one(), allocs, 0, 3, 0, 1, 3)
		noDraws(t, one(), allocs, 0, 4, 0, api.ErrFunds)
		noDraws(t, one(), allocs[:1], 0, 1, 0, api.ErrFunds)
		drawsAre(t, one(), allocs, 0, 0, 0)
	}
	for _, n := range []int{1, 2, most - 1, most, most + 1, math.MaxInt} {
		allocs := []api.Alloc{alloc(0, 9, n)}
		drawsAre(t, one(), allocs, 0, n, 0, 0, n)
		drawsAre(t, one(), allocs, 0, 1, 0, 0, 1)
		if n < math.MaxInt {
			noDraws(t, one(), allocs, 0, n+1, 0, api.ErrFunds)
		}
	}
	// All together are whole numbers without bound.
	allocs := slices.Repeat([]api.Alloc{alloc(0, 9, math.MaxInt)}, 3)
	drawsAre(t, one(), allocs, 0, math.MaxInt, 0, 0, math.MaxInt)
	allocs[0].Avail = 1
	drawsAre(t, one(), allocs, 0, math.MaxInt, 0, 0, 1, 1, math.MaxInt-1)
	drawsAre(t, one(), allocs, 0, 2, 0, 0, 1, 1, 1)
	allocs = slices.Repeat([]api.Alloc{alloc(0, 9, most)}, 8)
	drawsAre(t, one(), allocs, 0, math.MaxInt, 0, 0, most, 1, most, 2, most, 3, most, 4, most, 5, most, 6, most, 7, most-1)
	noDraws(t, one(), allocs[:7], 0, math.MaxInt, 0, api.ErrFunds)
}

// P11.1: as far as there is need, and no draw from which there is nothing.
func TestDrawsNeed(t *testing.T) {
	allocs := []api.Alloc{alloc(0, 4, 5), alloc(0, 5, 6), alloc(0, 6, 7)}
	drawsAre(t, one(), allocs, 0, 0, 0)
	drawsAre(t, one(), nil, 0, 0, 0)
	for amount := 1; amount <= 5; amount++ {
		drawsAre(t, one(), allocs, 0, amount, 0, 0, amount)
	}
	for amount := 6; amount <= 11; amount++ {
		drawsAre(t, one(), allocs, 0, amount, 0, 0, 5, 1, amount-5)
	}
	for amount := 12; amount <= 18; amount++ {
		drawsAre(t, one(), allocs, 0, amount, 0, 0, 5, 1, 6, 2, amount-11)
	}
	noDraws(t, one(), allocs, 0, 19, 0, api.ErrFunds)
}

// P11.1: of one fund the least Until first, of several the lowest place; From, and what there is, are nothing to it.
func TestDrawsOrderOfOneFund(t *testing.T) {
	allocs := []api.Alloc{
		{Until: 30, Avail: 1},
		{Until: 10, Avail: 2},
		{Until: 20, Avail: 3, From: -7},
		{Until: 10, Avail: 4, From: -9},
		{Until: 30, Avail: 5, From: -1},
		{Until: 20, Avail: 6},
		{Until: 10, Avail: 1, Liened: -9, Spent: -9},
	}
	drawsAre(t, one(), allocs, 0, 22, 5, 1, 2, 3, 4, 6, 1, 2, 3, 5, 6, 0, 1, 4, 5)
	drawsAre(t, one(), allocs, 0, 8, 5, 1, 2, 3, 4, 6, 1, 2, 1)
	drawsAre(t, one(), allocs, 0, 8, 10, 2, 3, 5, 5)
	drawsAre(t, one(), allocs, 0, 6, 29, 0, 1, 4, 5)
	slices.Reverse(allocs)
	drawsAre(t, one(), allocs, 0, 22, 5, 0, 1, 3, 4, 5, 2, 1, 6, 4, 3, 2, 5, 6, 1)
	// Untils at the ends of numbers.
	allocs = []api.Alloc{{From: math.MinInt, Until: math.MaxInt, Avail: 1}, {From: math.MinInt, Until: math.MinInt + 1, Avail: 1}, {From: math.MinInt, Until: 0, Avail: 1}}
	drawsAre(t, one(), allocs, 0, 3, math.MinInt, 1, 1, 2, 1, 0, 1)
	// As many as there may be, and more, all of one Until.
	for _, n := range []int{15, 16, 17, 500} {
		var want []int
		for place := range n {
			want = append(want, place, 3)
		}
		drawsAre(t, one(), slices.Repeat([]api.Alloc{alloc(0, 9, 3)}, n), 0, 3*n, 0, want...)
		noDraws(t, one(), slices.Repeat([]api.Alloc{alloc(0, 9, 3)}, n), 0, 3*n+1, 0, api.ErrFunds)
	}
}

// P11.1: a fund's own allocations first, however long they are good, then those of the next one above it.
func TestDrawsOrderOfFunds(t *testing.T) {
	// 3 lies below 1, and that below 0, where 2 does too; 4 lies by itself, and 5 below it.
	funds := below(-1, 0, 0, 1, -1, 4)
	allocs := []api.Alloc{
		alloc(0, 10, 1), alloc(1, 20, 1), alloc(2, 1, 1), alloc(3, 90, 1), alloc(4, 1, 1), alloc(5, 1, 1),
		alloc(0, 9, 1), alloc(1, 10, 1), alloc(3, 80, 1), alloc(3, 90, 1), alloc(1, 20, 1), alloc(6, 1, 1), alloc(-1, 1, 1),
	}
	drawsAre(t, funds, allocs, 3, 8, 0, 8, 1, 3, 1, 9, 1, 7, 1, 1, 1, 10, 1, 6, 1, 0, 1)
	drawsAre(t, funds, allocs, 3, 4, 0, 8, 1, 3, 1, 9, 1, 7, 1)
	drawsAre(t, funds, allocs, 3, 2, 10, 8, 1, 3, 1)
	drawsAre(t, funds, allocs, 3, 5, 10, 8, 1, 3, 1, 9, 1, 1, 1, 10, 1)
	drawsAre(t, funds, allocs, 1, 5, 0, 7, 1, 1, 1, 10, 1, 6, 1, 0, 1)
	drawsAre(t, funds, allocs, 0, 2, 0, 6, 1, 0, 1)
	drawsAre(t, funds, allocs, 2, 3, 0, 2, 1, 6, 1, 0, 1)
	drawsAre(t, funds, allocs, 4, 1, 0, 4, 1)
	drawsAre(t, funds, allocs, 5, 2, 0, 5, 1, 4, 1)
	for f, n := range []int{2, 5, 3, 8, 1, 2} {
		noDraws(t, funds, allocs, f, n+1, 0, api.ErrFunds)
	}
	// As many funds as there may be, each below the one ahead of it.
	chain := below(-1, 0, 1, 2, 3, 4, 5, 6)
	var each []api.Alloc
	for f := range 8 {
		each = append(each, alloc(f, 1, 2), alloc(7-f, 1, 3))
	}
	drawsAre(t, chain, each, 7, 40, 0, 1, 3, 14, 2, 3, 3, 12, 2, 5, 3, 10, 2, 7, 3, 8, 2, 6, 2, 9, 3, 4, 2, 11, 3, 2, 2, 13, 3, 0, 2, 15, 3)
	drawsAre(t, chain, each, 2, 15, 0, 4, 2, 11, 3, 2, 2, 13, 3, 0, 2, 15, 3)
}

// P11.1, R1: funds that may not be have Paths, which end.
func TestDrawsOfBadFunds(t *testing.T) {
	allocs := []api.Alloc{alloc(0, 9, 5), alloc(1, 9, 5), alloc(2, 9, 5)}
	drawsAre(t, below(0), allocs, 0, 5, 0, 0, 5)
	noDraws(t, below(0), allocs, 0, 6, 0, api.ErrFunds)
	// In a circle, from 2 to 1 and 0, and no further.
	drawsAre(t, below(2, 0, 1), allocs, 2, 15, 0, 2, 5, 1, 5, 0, 5)
	noDraws(t, below(2, 0, 1), allocs, 2, 16, 0, api.ErrFunds)
	noDraws(t, below(2, 0, 1), allocs, 0, 6, 0, api.ErrFunds)
	// A parent behind its fund is none.
	drawsAre(t, below(2, -1, -1), allocs, 0, 5, 0, 0, 5)
	noDraws(t, below(2, -1, -1), allocs, 0, 6, 0, api.ErrFunds)
	noDraws(t, below(math.MaxInt, math.MinInt, 3), allocs, 2, 6, 0, api.ErrFunds)
	// Funds without names, and limits that don't hold, are funds too.
	drawsAre(t, make([]api.Fund, 2), allocs, 1, 7, 0, 1, 5, 0, 2)
	drawsAre(t, []api.Fund{{Parent: -1, Limit: 1}}, []api.Alloc{{Until: 9, Avail: 5, Liened: 9}}, 0, 5, 0, 0, 5)
	// Nor is it asked how many there are.
	many := make([]api.Fund, 100)
	for f := range many {
		many[f].Parent = f - 1
	}
	drawsAre(t, many, allocs, 99, 15, 0, 2, 5, 1, 5, 0, 5)
}

// P11.2: Charge, of each as much as it has, in order.
func TestCharge(t *testing.T) {
	list := draws(1, 5, 0, 2, 3, 4)
	chargeIs(t, list, 0, 1, 0, 0, 0, 3, 0)
	for amount := 1; amount <= 5; amount++ {
		chargeIs(t, list, amount, 1, amount, 0, 0, 3, 0)
	}
	chargeIs(t, list, 6, 1, 5, 0, 1, 3, 0)
	chargeIs(t, list, 7, 1, 5, 0, 2, 3, 0)
	for amount := 8; amount <= 11; amount++ {
		chargeIs(t, list, amount, 1, 5, 0, 2, 3, amount-7)
	}
	noCharge(t, list, 12, api.ErrFunds)
	noCharge(t, list, math.MaxInt, api.ErrFunds)
	chargeIs(t, nil, 0)
	chargeIs(t, []api.Draw{}, 0)
	noCharge(t, nil, 1, api.ErrFunds)
	// What stands in a list's spare room is no draw of it.
	noCharge(t, list[:2], 8, api.ErrFunds)
	// Draws of nothing keep their places.
	chargeIs(t, draws(4, 0, 5, 3, 6, 0, 7, 2), 4, 4, 0, 5, 3, 6, 0, 7, 1)
	chargeIs(t, draws(4, 0), 0, 4, 0)
	noCharge(t, draws(4, 0), 1, api.ErrFunds)
	// Allocations may be any, and the same ones.
	chargeIs(t, draws(9, 2, 9, 2, -1, 2, math.MaxInt, 2, math.MinInt, 2), 9, 9, 2, 9, 2, -1, 2, math.MaxInt, 2, math.MinInt, 1)
	many := slices.Repeat(draws(3, 2), 500)
	if d, e := draw.Charge(many, 1000); e != api.OK || !slices.Equal(d, many) {
		t.Error(d, e)
	}
	noCharge(t, many, 1001, api.ErrFunds)
}

// P11.2: an amount, or a draw, below 0.
func TestChargeErrors(t *testing.T) {
	for _, n := range []int{-1, -2, -most, math.MinInt} {
		noCharge(t, draws(1, 5, 0, 2), n, api.ErrArg)
		noCharge(t, nil, n, api.ErrArg)
		noCharge(t, draws(1, n), n, api.ErrArg)
		for _, amount := range []int{0, 1, 4, 5, 6, 9, 100, math.MaxInt} {
			noCharge(t, draws(0, n), amount, api.ErrFunds)
			noCharge(t, draws(0, n, 1, 9), amount, api.ErrFunds)
			// Behind all that is taken too.
			noCharge(t, draws(0, 4, 1, n, 2, 5), amount, api.ErrFunds)
			noCharge(t, draws(0, 4, 1, 5, 2, n), amount, api.ErrFunds)
			noCharge(t, draws(0, math.MaxInt, 1, 0, 2, n), amount, api.ErrFunds)
		}
	}
}

// P11.2, R8: draws are together whole numbers without bound.
func TestChargeEnds(t *testing.T) {
	for _, n := range []int{most - 1, most, most + 1, math.MaxInt - 1, math.MaxInt} {
		chargeIs(t, draws(0, n), n, 0, n)
		chargeIs(t, draws(0, n, 1, n, 2, n), n, 0, n, 1, 0, 2, 0)
		chargeIs(t, draws(0, 1, 1, n, 2, n), n, 0, 1, 1, n-1, 2, 0)
		chargeIs(t, draws(0, n, 1, n, 2, n), 1, 0, 1, 1, 0, 2, 0)
	}
	full := slices.Repeat(draws(5, most), 8)
	want := slices.Clone(full)
	want[7].Amount--
	if d, e := draw.Charge(full, math.MaxInt); e != api.OK || !slices.Equal(d, want) {
		t.Error(d, e)
	}
	noCharge(t, full[:7], math.MaxInt, api.ErrFunds)
	chargeIs(t, draws(0, most, 1, most), 2*most, 0, most, 1, most)
	noCharge(t, draws(0, most, 1, most), 2*most+1, api.ErrFunds)
}

// P11.2: Total, in order, as far as it fits.
func TestTotal(t *testing.T) {
	totalIs(t, nil, 0, api.OK)
	totalIs(t, []api.Draw{}, 0, api.OK)
	totalIs(t, draws(1, 5, 0, 2, 3, 4), 11, api.OK)
	totalIs(t, draws(1, 5, 0, 2, 3, 4)[:2], 7, api.OK)
	totalIs(t, draws(1, 5, 1, -7), -2, api.OK)
	totalIs(t, draws(math.MaxInt, 0, math.MinInt, 3), 3, api.OK)
	totalIs(t, draws(1, most), most, api.OK)
	totalIs(t, draws(1, -most), -most, api.OK)
	totalIs(t, draws(1, most, 2, -most, 3, most), most, api.OK)
	totalIs(t, draws(1, most-1, 2, 1), most, api.OK)
	totalIs(t, draws(1, most, 2, 1), 0, api.ErrOver)
	totalIs(t, draws(1, most, 2, 1, 3, -1), 0, api.ErrOver)
	totalIs(t, draws(1, most, 3, -1, 2, 1), most, api.OK)
	totalIs(t, draws(1, -most, 2, -1, 3, 1), 0, api.ErrOver)
	for _, n := range []int{most + 1, -most - 1, math.MaxInt, math.MinInt} {
		totalIs(t, draws(1, n), 0, api.ErrOver)
		totalIs(t, draws(1, n, 2, -n), 0, api.ErrOver)
		totalIs(t, draws(1, -1, 2, n), 0, api.ErrOver)
	}
}

// P11.3: Lien, Free and Back, of each allocation's own accounts, in this order.
func TestLegsOfEach(t *testing.T) {
	for a := range 16 {
		for _, n := range []int{1, 2, 7, most - 1, most, -1, -most} {
			d := draws(a, n)
			legsAre(t, "Lien", draw.Lien(d), 1+3*a, -n, 2+3*a, n)
			legsAre(t, "Free", draw.Free(d), 2+3*a, -n, 1+3*a, n)
			legsAre(t, "Back", draw.Back(d), 3+3*a, -n, 1+3*a, n)
			legsAre(t, "Spend of all", draw.Spend(d, d), 2+3*a, -n, 3+3*a, n)
			legsAre(t, "Spend of nothing", draw.Spend(d, draws(a, 0)), 2+3*a, -n, 1+3*a, n)
		}
		legsAre(t, "Spend", draw.Spend(draws(a, 9), draws(a, 5)), 2+3*a, -9, 3+3*a, 5, 1+3*a, 4)
		// A draw of nothing has no legs.
		for _, list := range [][]api.Leg{draw.Lien(draws(a, 0)), draw.Free(draws(a, 0)), draw.Back(draws(a, 0)), draw.Spend(draws(a, 0), draws(a, 0))} {
			legsAre(t, "of nothing", list)
		}
	}
	legsAre(t, "Lien", draw.Lien(nil))
	legsAre(t, "Free", draw.Free(nil))
	legsAre(t, "Back", draw.Back(nil))
	legsAre(t, "Lien", draw.Lien([]api.Draw{}))
}

// P11.3: draw by draw, in order, those of one allocation too.
func TestLegsInOrder(t *testing.T) {
	list := draws(1, 5, 0, 2, 7, 0, 3, 4, 1, 6)
	legsAre(t, "Lien", draw.Lien(list), 4, -5, 5, 5, 1, -2, 2, 2, 10, -4, 11, 4, 4, -6, 5, 6)
	legsAre(t, "Free", draw.Free(list), 5, -5, 4, 5, 2, -2, 1, 2, 11, -4, 10, 4, 5, -6, 4, 6)
	legsAre(t, "Back", draw.Back(list), 6, -5, 4, 5, 3, -2, 1, 2, 12, -4, 10, 4, 6, -6, 4, 6)
	charged := draws(1, 5, 0, 1, 7, 0, 3, 0, 1, 2)
	legsAre(t, "Spend", draw.Spend(list, charged), 5, -5, 6, 5, 2, -2, 3, 1, 1, 1, 11, -4, 10, 4, 5, -6, 6, 2, 4, 4)
	// What stands in a list's spare room is no draw of it.
	legsAre(t, "Lien", draw.Lien(list[:1]), 4, -5, 5, 5)
	legsAre(t, "Spend", draw.Spend(list[:2], charged[:2]), 5, -5, 6, 5, 2, -2, 3, 1, 1, 1)
}

// P11.3: Spend goes by the places of both lists, of which there are as many.
func TestSpend(t *testing.T) {
	list, charged := draws(1, 5, 0, 2, 3, 4), draws(1, 5, 0, 1, 3, 0)
	for n := range 4 {
		for m := range 4 {
			if got := draw.Spend(list[:n], charged[:m]); n != m && len(got) != 0 {
				t.Error(n, m, got)
			}
		}
	}
	legsAre(t, "Spend", draw.Spend(nil, nil))
	legsAre(t, "Spend", draw.Spend(nil, []api.Draw{}))
	legsAre(t, "Spend", draw.Spend(list, nil))
	legsAre(t, "Spend", draw.Spend(nil, list))
	// A charge's own allocation is nothing to it.
	legsAre(t, "Spend", draw.Spend(list, draws(3, 1, 1, 2, 0, 3)), 5, -5, 6, 1, 4, 4, 2, -2, 3, 2, 11, -4, 12, 3, 10, 1)
	// Nor is the charge of a draw of nothing.
	legsAre(t, "Spend", draw.Spend(draws(1, 0, 2, 3), draws(1, 9, 2, 2)), 8, -3, 9, 2, 7, 1)
	// A charge may be more than its draw, or below 0.
	legsAre(t, "Spend", draw.Spend(draws(1, 5), draws(1, 8)), 5, -5, 6, 8, 4, -3)
	legsAre(t, "Spend", draw.Spend(draws(1, 5), draws(1, -2)), 5, -5, 6, -2, 4, 7)
	legsAre(t, "Spend", draw.Spend(draws(1, -5), draws(1, 2)), 5, 5, 6, 2, 4, -7)
	legsAre(t, "Spend", draw.Spend(draws(1, most), draws(1, -most)), 5, -most, 6, -most, 4, 2*most)
	legsAre(t, "Spend", draw.Spend(draws(1, -most), draws(1, most)), 5, most, 6, most, 4, -2*most)
}

// R1: a call of which nothing is promised answers all the same.
func TestLegsOfOthers(t *testing.T) {
	for _, a := range []int{-1, 16, math.MaxInt, math.MinInt} {
		for _, n := range []int{0, 1, math.MaxInt, math.MinInt} {
			d := draws(a, n, n, a)
			draw.Lien(d)
			draw.Free(d)
			draw.Back(d)
			draw.Spend(d, d)
			draw.Spend(d, draws(n, a, a, n))
		}
	}
}

// P11.1 to P11.3: what is drawn can be liened, then spent in part and given back, or free again.
func TestLegsArePosted(t *testing.T) {
	funds := below(-1, 0)
	start := []api.Alloc{alloc(1, 9, 5), alloc(1, 4, 5), alloc(0, 9, 20)}
	post := func(allocs []api.Alloc, l []api.Leg) []api.Alloc {
		t.Helper()
		world, after, e := ledger.Post(-30, allocs, l)
		if world != -30 || e != api.OK {
			t.Fatal(world, after, e)
		}
		return after
	}
	for amount := 1; amount <= 30; amount++ {
		d, e := draw.Draws(funds, start, 1, amount, 0)
		if n, totalE := draw.Total(d); n != amount || e != api.OK || totalE != api.OK {
			t.Fatal(amount, n, d, e, totalE)
		}
		held := post(start, draw.Lien(d))
		if !slices.Equal(post(held, draw.Free(d)), start) {
			t.Error(amount, "is not free again")
		}
		for used := range amount + 1 {
			charged, e := draw.Charge(d, used)
			if e != api.OK || len(charged) != len(d) {
				t.Fatal(amount, used, charged, e)
			}
			after := post(held, draw.Spend(d, charged))
			spent := 0
			for _, a := range after {
				if a.Liened != 0 {
					t.Error(amount, used, "is liened still", a)
				}
				spent += a.Spent
			}
			if spent != used {
				t.Error(amount, used, spent, "is spent")
			}
			if used > 0 && !slices.Equal(post(after, draw.Back(charged)), start) {
				t.Error(amount, used, "is not given back")
			}
		}
	}
	noDraws(t, funds, start, 1, 31, 0, api.ErrFunds)
}

// The words of the chapter, one by one, with whole numbers without bound.

// pathOf: chapter 8's Path.
func pathOf(funds []api.Fund, f int) []int {
	path := []int{f}
	for {
		up := funds[f].Parent
		if up < 0 || up >= len(funds) || up >= f {
			return path
		}
		path, f = append(path, up), up
	}
}

// orderOf: the places of those that are open, one by one the next one that has not been named.
func orderOf(funds []api.Fund, allocs []api.Alloc, f, now int) []int {
	var order []int
	for _, fund := range pathOf(funds, f) {
		for {
			next := -1
			for place, a := range allocs {
				if a.Fund != fund || a.From > now || a.Until <= now || a.Avail <= 0 || slices.Contains(order, place) {
					continue
				}
				if next < 0 || a.Until < allocs[next].Until {
					next = place
				}
			}
			if next < 0 {
				break
			}
			order = append(order, next)
		}
	}
	return order
}

// takenOf: what an amount takes of amounts, each at most all of it; is it enough?
func takenOf(amounts []int, amount int) ([]int, bool) {
	ahead := new(big.Int)
	want := big.NewInt(int64(amount))
	var taken []int
	for _, n := range amounts {
		rest := new(big.Int).Sub(want, ahead)
		one := big.NewInt(int64(n))
		switch {
		case rest.Sign() <= 0:
			taken = append(taken, 0)
		case rest.Cmp(one) < 0:
			taken = append(taken, int(rest.Int64()))
		default:
			taken = append(taken, n)
		}
		ahead.Add(ahead, one)
	}
	return taken, ahead.Cmp(want) >= 0
}

func drawsOf(funds []api.Fund, allocs []api.Alloc, f, amount, now int) ([]api.Draw, api.Errno) {
	if f < 0 || f >= len(funds) {
		return nil, api.ErrNone
	}
	if amount < 0 {
		return nil, api.ErrArg
	}
	order := orderOf(funds, allocs, f, now)
	var amounts []int
	for _, place := range order {
		amounts = append(amounts, allocs[place].Avail)
	}
	taken, enough := takenOf(amounts, amount)
	if !enough {
		return nil, api.ErrFunds
	}
	var list []api.Draw
	for i, place := range order {
		if taken[i] > 0 {
			list = append(list, api.Draw{Alloc: place, Amount: taken[i]})
		}
	}
	return list, api.OK
}

func chargeOf(list []api.Draw, amount int) ([]api.Draw, api.Errno) {
	if amount < 0 {
		return nil, api.ErrArg
	}
	var amounts []int
	for _, d := range list {
		if d.Amount < 0 {
			return nil, api.ErrFunds
		}
		amounts = append(amounts, d.Amount)
	}
	taken, enough := takenOf(amounts, amount)
	if !enough {
		return nil, api.ErrFunds
	}
	var charged []api.Draw
	for i, d := range list {
		charged = append(charged, api.Draw{Alloc: d.Alloc, Amount: taken[i]})
	}
	return charged, api.OK
}

func totalOf(list []api.Draw) (int, api.Errno) {
	end, sum := big.NewInt(most), new(big.Int)
	for _, d := range list {
		n := big.NewInt(int64(d.Amount))
		sum.Add(sum, n)
		if n.CmpAbs(end) > 0 || sum.CmpAbs(end) > 0 {
			return 0, api.ErrOver
		}
	}
	return int(sum.Int64()), api.OK
}

// spare: a list with room behind it, in which there is something.
func spare[E any](list []E) []E {
	return append(slices.Clone(list), append(slices.Clone(list), make([]E, 3)...)...)[:len(list)]
}

// scribble: all over an answer, and the room behind it.
func scribble[E any](list []E, with E) {
	for i := range list[:cap(list)] {
		list[:cap(list)][i] = with
	}
}

// sameDraws: Draws answers what the words ask for, twice, in memory of its own, and changes nothing (R3 to R5).
func sameDraws(t *testing.T, funds []api.Fund, allocs []api.Alloc, f, amount, now int) api.Errno {
	t.Helper()
	funds, allocs = spare(funds), spare(allocs)
	givenFunds, givenAllocs := slices.Clone(funds[:cap(funds)]), slices.Clone(allocs[:cap(allocs)])
	want, wantE := drawsOf(funds, allocs, f, amount, now)
	for range 2 {
		d, e := draw.Draws(funds, allocs, f, amount, now)
		if e != wantE || !slices.Equal(d, want) {
			t.Errorf("Draws(%v, %v, %d, %d, %d) is %v, %d; it should be %v, %d", funds, allocs, f, amount, now, d, e, want, wantE)
		}
		scribble(d, api.Draw{Alloc: -7, Amount: -7})
	}
	if !slices.Equal(funds[:cap(funds)], givenFunds) || !slices.Equal(allocs[:cap(allocs)], givenAllocs) {
		t.Error("what was handed in was changed", funds, allocs)
	}
	return wantE
}

// sameCharge: Charge and Total likewise.
func sameCharge(t *testing.T, list []api.Draw, amount int) api.Errno {
	t.Helper()
	list = spare(list)
	given := slices.Clone(list[:cap(list)])
	want, wantE := chargeOf(list, amount)
	total, totalE := totalOf(list)
	for range 2 {
		d, e := draw.Charge(list, amount)
		if e != wantE || !slices.Equal(d, want) {
			t.Errorf("Charge(%v, %d) is %v, %d; it should be %v, %d", list, amount, d, e, want, wantE)
		}
		scribble(d, api.Draw{Alloc: -7, Amount: -7})
		totalIs(t, list, total, totalE)
	}
	if !slices.Equal(list[:cap(list)], given) {
		t.Error("what was handed in was changed", list)
	}
	return wantE
}

// sameLegs: the legs likewise, of draws of which the chapter speaks.
func sameLegs(t *testing.T, list, charged []api.Draw) {
	t.Helper()
	list, charged = spare(list), spare(charged)
	given, givenCharged := slices.Clone(list[:cap(list)]), slices.Clone(charged[:cap(charged)])
	var lien, free, back, spend []int
	for i, d := range list {
		a, n := 3*d.Alloc, d.Amount
		if n == 0 {
			continue
		}
		lien = append(lien, a+1, -n, a+2, n)
		free = append(free, a+2, -n, a+1, n)
		back = append(back, a+3, -n, a+1, n)
		if len(list) != len(charged) {
			continue
		}
		spend = append(spend, a+2, -n)
		if charged[i].Amount != 0 {
			spend = append(spend, a+3, charged[i].Amount)
		}
		if n != charged[i].Amount {
			spend = append(spend, a+1, n-charged[i].Amount)
		}
	}
	for range 2 {
		answers := [][]api.Leg{draw.Lien(list), draw.Free(list), draw.Back(list), draw.Spend(list, charged)}
		for i, want := range [][]int{lien, free, back, spend} {
			legsAre(t, [...]string{"Lien", "Free", "Back", "Spend"}[i], answers[i], want...)
			scribble(answers[i], api.Leg{Acct: -7, Amount: -7})
		}
	}
	if !slices.Equal(list[:cap(list)], given) || !slices.Equal(charged[:cap(charged)], givenCharged) {
		t.Error("what was handed in was changed", list, charged)
	}
}

// P11.1: all of three allocations of small kinds, for two funds, at each tick and for each amount.
func TestAllSmallAllocs(t *testing.T) {
	var kinds []api.Alloc
	for n := range 16 {
		kinds = append(kinds, api.Alloc{Fund: n & 1, From: n >> 1 & 1, Until: 2 + n>>2&1, Avail: 1 + n>>3})
	}
	kinds = append(kinds, api.Alloc{Until: 3}, api.Alloc{Fund: 2, Until: 3, Avail: 2})
	funds := below(-1, 0)
	for _, a := range kinds {
		for _, b := range kinds {
			for _, c := range kinds {
				allocs := []api.Alloc{a, b, c}
				for now := range 4 {
					want, wantE := drawsOf(funds, allocs, 1, 3, now)
					if d, e := draw.Draws(funds, allocs, 1, 3, now); e != wantE || !slices.Equal(d, want) {
						t.Fatal(allocs, now, d, e, want, wantE)
					}
				}
				for amount := range 8 {
					sameDraws(t, funds, allocs, amount&1, amount, 1)
				}
			}
		}
	}
}

// P11.2, P11.3: all lists of up to four small draws, and all that they can be charged.
func TestAllSmallDraws(t *testing.T) {
	const kinds = 5
	for n := range kinds*kinds*kinds*kinds + kinds*kinds*kinds + kinds*kinds + kinds + 1 {
		var list []api.Draw
		// Written to the base of kinds with digits from 1 on, each list has one number.
		for place := 0; n > 0; place++ {
			n--
			list = append(list, api.Draw{Alloc: (place * 7) % 16, Amount: n%kinds - 1})
			n /= kinds
		}
		for amount := -1; amount <= 14; amount++ {
			sameCharge(t, list, amount)
			charged, _ := draw.Charge(list, amount)
			sameLegs(t, list, charged)
			sameLegs(t, charged, list)
		}
	}
}

// P11.1 to P11.3: funds, allocations and draws of any kind.
func TestAtRandom(t *testing.T) {
	r := rand.New(rand.NewSource(11))
	ends := []int{0, 1, -1, 16, most - 1, most, most + 1, -most, -most - 1, math.MaxInt, math.MinInt}
	pick := func(wild bool, n int) int {
		if wild && r.Intn(20) == 0 {
			return ends[r.Intn(len(ends))]
		}
		return r.Intn(n)
	}
	drawn, charged := map[api.Errno]int{}, map[api.Errno]int{}
	for range 30000 {
		wild := r.Intn(3) == 0
		funds := make([]api.Fund, 1+r.Intn(8))
		for f := range funds {
			funds[f].Parent = pick(wild, f+1) - 1
		}
		allocs := make([]api.Alloc, r.Intn(19))
		for i := range allocs {
			allocs[i] = api.Alloc{Fund: pick(wild, len(funds)), From: pick(wild, 5), Until: pick(wild, 12), Avail: pick(wild, 20) - 1, Liened: pick(wild, 5), Spent: pick(wild, 5)}
		}
		drawn[sameDraws(t, funds, allocs, pick(wild, len(funds)+1), pick(wild, 40)-1, pick(wild, 9))]++
		list, plain := make([]api.Draw, r.Intn(17)), make([]api.Draw, 17)
		for i := range list {
			list[i] = api.Draw{Alloc: pick(wild, 16), Amount: pick(wild, 20)}
			plain[i] = api.Draw{Alloc: r.Intn(16), Amount: pick(false, 20) - 5}
		}
		charged[sameCharge(t, list, pick(wild, 200)-1)]++
		sameLegs(t, plain[:len(list)], slices.Concat(plain[7:], plain[:7])[:r.Intn(len(list)+1)])
		sameLegs(t, plain[:len(list)], slices.Concat(plain[7:], plain[:7])[:len(list)])
	}
	if len(drawn) != 4 || len(charged) != 3 || min(drawn[api.OK], drawn[api.ErrNone], drawn[api.ErrFunds], charged[api.OK], charged[api.ErrFunds]) < 5000 || min(drawn[api.ErrArg], charged[api.ErrArg]) < 100 {
		t.Error("too few of a kind", drawn, charged)
	}
}

// P11.1 to P11.3: held against the words.
func FuzzDraw(f *testing.F) {
	f.Add([]byte("\x00\x00\x09\x05\x00\x00\x04\x05"), 0, 7, 0)
	f.Add([]byte("aaaabbbbccccddddeeeeffffgggghhhhiiiijjjjkkkkllllmmmmnnnnoooopppp"), 7, 30, 3)
	f.Add([]byte{255, 254, 253, 0, 200, 1, 201, 2, 202, 3, 203, 4}, -1, math.MinInt, math.MaxInt)
	f.Fuzz(func(t *testing.T, b []byte, fund, amount, now int) {
		number := func(c byte) int {
			if c < 200 {
				return int(c % 16)
			}
			return (int(c)%5-2)<<60 + int(c/5%5) - 2
		}
		var allocs []api.Alloc
		var funds []api.Fund
		var list, tame []api.Draw
		for four := range slices.Chunk(b[:min(len(b), 80)/4*4], 4) {
			allocs = append(allocs, api.Alloc{Fund: int(four[0] % 8), From: number(four[1]), Until: number(four[2]), Avail: number(four[3])})
			funds = append(funds, api.Fund{Parent: number(four[1]) % 9})
			list = append(list, api.Draw{Alloc: number(four[2]), Amount: number(four[3])})
			tame = append(tame, api.Draw{Alloc: int(four[2] % 16), Amount: int(four[3]) - 9})
		}
		for _, n := range []int{amount, amount % 64} {
			sameDraws(t, funds, allocs, fund, n, now)
			sameDraws(t, funds, allocs, fund%9, n, now%16)
			sameCharge(t, list, n)
			sameCharge(t, tame, n)
		}
		charged, _ := draw.Charge(tame, amount%1024)
		sameLegs(t, tame, charged)
		slices.Reverse(list[:len(list)/2])
		sameLegs(t, tame, tame[len(tame)/2:])
	})
}
