package ledger_test

import (
	"math"
	"math/big"
	"math/rand"
	"slices"
	"testing"

	"prebend/api"
	"prebend/ledger"
)

const most = 1 << 60

func TestLimits(t *testing.T) {
	if api.MaxLegs != 64 || api.MaxAmount != most {
		t.Error(api.MaxLegs, api.MaxAmount)
	}
}

func alloc(avail, liened, spent int) api.Alloc {
	return api.Alloc{Avail: avail, Liened: liened, Spent: spent}
}

// legs: of each two numbers the account, and the amount.
func legs(numbers ...int) []api.Leg {
	var list []api.Leg
	for two := range slices.Chunk(numbers, 2) {
		list = append(list, api.Leg{Acct: two[0], Amount: two[1]})
	}
	return list
}

// amountIs: Amount answers that.
func amountIs(t *testing.T, world int, allocs []api.Alloc, acct, want int, wantE api.Errno) {
	t.Helper()
	if n, e := ledger.Amount(world, allocs, acct); n != want || e != wantE {
		t.Errorf("Amount(%d, %v, %d) is %d, %d; it should be %d, %d", world, allocs, acct, n, e, want, wantE)
	}
}

// totalIs: Total answers that.
func totalIs(t *testing.T, world int, allocs []api.Alloc, want int, wantE api.Errno) {
	t.Helper()
	if n, e := ledger.Total(world, allocs); n != want || e != wantE {
		t.Errorf("Total(%d, %v) is %d, %d; it should be %d, %d", world, allocs, n, e, want, wantE)
	}
}

// postIs: Post answers that.
func postIs(t *testing.T, world int, allocs []api.Alloc, l []api.Leg, wantW int, want []api.Alloc, wantE api.Errno) {
	t.Helper()
	w, list, e := ledger.Post(world, allocs, l)
	if w != wantW || !slices.Equal(list, want) || e != wantE {
		t.Errorf("Post(%d, %v, %v) is %d, %v, %d; it should be %d, %v, %d", world, allocs, l, w, list, e, wantW, want, wantE)
	}
}

// refused: Post answers that error, and nothing else.
func refused(t *testing.T, world int, allocs []api.Alloc, l []api.Leg, e api.Errno) {
	t.Helper()
	postIs(t, world, allocs, l, 0, nil, e)
}

// P9.1: Amount, of each account.
func TestAmount(t *testing.T) {
	allocs := []api.Alloc{alloc(10, 11, 12), alloc(20, 21, 22), {Fund: 90, From: 91, Until: 92, Avail: 30, Liened: 31, Spent: 32}}
	for acct, want := range []int{-7, 10, 11, 12, 20, 21, 22, 30, 31, 32} {
		amountIs(t, -7, allocs, acct, want, api.OK)
	}
	for _, acct := range []int{10, 11, 12, 13, -1, -2, -3, -4, math.MaxInt, math.MinInt, math.MinInt + 1} {
		amountIs(t, -7, allocs, acct, 0, api.ErrNone)
	}
	for _, none := range [][]api.Alloc{nil, {}, allocs[:0]} {
		amountIs(t, -7, none, 0, -7, api.OK)
		for _, acct := range []int{-1, 1, 2, 3, 4} {
			amountIs(t, -7, none, acct, 0, api.ErrNone)
		}
	}
	// What an account has is told, whether or not it may be.
	for _, n := range []int{0, 1, -1, most, -most, most + 1, -most - 1, math.MaxInt, math.MinInt} {
		amountIs(t, n, nil, 0, n, api.OK)
		for acct := 1; acct <= 3; acct++ {
			amountIs(t, 5, []api.Alloc{alloc(n, n, n)}, acct, n, api.OK)
		}
	}
}

// P9.1: there may be more allocations than a state has.
func TestAmountOfMany(t *testing.T) {
	var allocs []api.Alloc
	for i := range 1000 {
		allocs = append(allocs, alloc(1+3*i, 2+3*i, 3+3*i))
	}
	for acct := range 3001 {
		amountIs(t, 0, allocs, acct, acct, api.OK)
	}
	amountIs(t, 0, allocs, 3001, 0, api.ErrNone)
}

// P9.1: Total, of all accounts; each amount, and each sum of the first ones, has to fit, in their order.
func TestTotal(t *testing.T) {
	totalIs(t, 0, nil, 0, api.OK)
	totalIs(t, -5, nil, -5, api.OK)
	totalIs(t, 5, []api.Alloc{}, 5, api.OK)
	totalIs(t, 1, []api.Alloc{alloc(20, 300, 4000), alloc(50000, 600000, 7000000)}, 7654321, api.OK)
	totalIs(t, -27, []api.Alloc{alloc(2, 3, 4), alloc(5, 6, 7)}, 0, api.OK)
	totalIs(t, -2, []api.Alloc{{Fund: math.MaxInt, From: math.MaxInt, Until: math.MinInt, Spent: 3}}, 1, api.OK)

	totalIs(t, -most, []api.Alloc{alloc(most, most, 0)}, most, api.OK)
	totalIs(t, -most, []api.Alloc{alloc(most, most, -1), alloc(1, 0, 0)}, most, api.OK)
	totalIs(t, 0, []api.Alloc{alloc(most, -most, -most)}, -most, api.OK)
	for _, over := range []int{most + 1, -most - 1, math.MaxInt, math.MinInt} {
		totalIs(t, over, nil, 0, api.ErrOver)
		totalIs(t, over, []api.Alloc{alloc(-1, 1, 0)}, 0, api.ErrOver)
		totalIs(t, 0, []api.Alloc{alloc(over, 0, 0)}, 0, api.ErrOver)
		totalIs(t, 0, []api.Alloc{{}, alloc(0, over, 0)}, 0, api.ErrOver)
		totalIs(t, 0, []api.Alloc{{}, {}, alloc(0, 0, over)}, 0, api.ErrOver)
	}
	// The sum of all would fit.
	totalIs(t, 1, []api.Alloc{alloc(most, -1, 0)}, 0, api.ErrOver)
	totalIs(t, 0, []api.Alloc{alloc(most, 1, -1)}, 0, api.ErrOver)
	totalIs(t, 0, []api.Alloc{alloc(0, most, 1), alloc(-1, 0, 0)}, 0, api.ErrOver)
	totalIs(t, 0, []api.Alloc{alloc(0, 0, -most), alloc(-1, 1, 0)}, 0, api.ErrOver)
	totalIs(t, most, []api.Alloc{alloc(-1, 0, 0), alloc(1, 0, 0)}, most, api.OK)
	totalIs(t, -1, []api.Alloc{alloc(most, 1, 0)}, most, api.OK)
	totalIs(t, math.MaxInt, []api.Alloc{alloc(math.MinInt, 1, 0)}, 0, api.ErrOver)
}

// P9.2: the chapter's example.
func TestPostExample(t *testing.T) {
	w, l, e := ledger.Post(0, []api.Alloc{{}}, legs(0, -5, 1, 5))
	if w != -5 || !slices.Equal(l, []api.Alloc{alloc(5, 0, 0)}) || e != api.OK {
		t.Fatal(w, l, e)
	}
	w, l, e = ledger.Post(w, l, legs(1, -3, 2, 3))
	if w != -5 || !slices.Equal(l, []api.Alloc{alloc(2, 3, 0)}) || e != api.OK {
		t.Fatal(w, l, e)
	}
	refused(t, w, l, legs(1, -3, 2, 3), api.ErrFunds)
	totalIs(t, w, l, 0, api.OK)
}

func two() []api.Alloc {
	return []api.Alloc{{Fund: 4, From: 1, Until: 2, Avail: 10, Liened: 3, Spent: 1}, {Fund: 5, From: 6, Until: 7, Avail: 20, Liened: 40, Spent: 80}}
}

// twoWith: the same, with other amounts.
func twoWith(a, b, c, d, e, f int) []api.Alloc {
	l := two()
	l[0].Avail, l[0].Liened, l[0].Spent = a, b, c
	l[1].Avail, l[1].Liened, l[1].Spent = d, e, f
	return l
}

// P9.2: legs that are posted.
func TestPost(t *testing.T) {
	for _, c := range []struct {
		legs  []api.Leg
		world int
		want  []api.Alloc
	}{
		{legs(0, -5, 1, 5), -155, twoWith(15, 3, 1, 20, 40, 80)},
		{legs(1, 5, 0, -5), -155, twoWith(15, 3, 1, 20, 40, 80)},
		{legs(2, -3, 3, 2, 1, 1), -150, twoWith(11, 0, 3, 20, 40, 80)},
		{legs(4, -20, 5, 20), -150, twoWith(10, 3, 1, 0, 60, 80)},
		{legs(5, -40, 6, 15, 4, 25), -150, twoWith(10, 3, 1, 45, 0, 95)},
		{legs(6, -80, 4, 80), -150, twoWith(10, 3, 1, 100, 40, 0)},
		{legs(1, -10, 4, 10), -150, twoWith(0, 3, 1, 30, 40, 80)},
		{legs(1, -10, 2, -3, 3, -1, 4, -20, 5, -40, 6, -80, 0, 154), 0, nil},
		{legs(1, -10, 2, -3, 3, -1, 4, -20, 5, -40, 6, -76, 0, 150), 0, twoWith(0, 0, 0, 0, 0, 4)},
		// Of one account there may be several, which come to what is told behind all of them.
		{legs(1, -20, 0, 10, 0, 4, 1, 6), 0, nil},
		{legs(1, -20, 0, 10, 1, 10), -140, twoWith(0, 3, 1, 20, 40, 80)},
		{legs(0, 200, 0, -100, 4, -20, 1, -10, 0, -70), -120, twoWith(0, 3, 1, 0, 40, 80)},
		{legs(2, 5, 2, -5), -150, two()},
		{legs(2, -5, 2, 5), -150, two()},
		{legs(0, 500, 0, -500), -150, two()},
	} {
		if c.want == nil {
			refused(t, -150, two(), c.legs, api.ErrFunds)
			continue
		}
		postIs(t, -150, two(), c.legs, c.world, c.want, api.OK)
	}
}

// P9.2: no account of an allocation below 0, the world's not above it.
func TestPostErrFunds(t *testing.T) {
	for acct := 1; acct <= 6; acct++ {
		has, _ := ledger.Amount(-150, two(), acct)
		other := acct%6 + 1
		refused(t, -150, two(), legs(acct, -has-1, other, has+1), api.ErrFunds)
		refused(t, -150, two(), legs(other, has+1, acct, -has-1), api.ErrFunds)
		w, l, e := ledger.Post(-150, two(), legs(acct, -has, other, has))
		if w != -150 || e != api.OK {
			t.Error(acct, w, e)
		}
		amountIs(t, w, l, acct, 0, api.OK)
	}
	postIs(t, -150, two(), legs(6, -80, 5, -40, 4, -20, 0, 140), -10, twoWith(10, 3, 1, 0, 0, 0), api.OK)
	postIs(t, -50, two(), legs(6, -50, 0, 50), 0, twoWith(10, 3, 1, 20, 40, 30), api.OK)
	refused(t, -50, two(), legs(6, -51, 0, 51), api.ErrFunds)
	refused(t, 0, two(), legs(6, -1, 0, 1), api.ErrFunds)
	// Those that had no less than nothing, and more than nothing, may come back to it.
	postIs(t, 5, two(), legs(0, -5, 1, 5), 0, twoWith(15, 3, 1, 20, 40, 80), api.OK)
	refused(t, 6, two(), legs(0, -5, 1, 5), api.ErrFunds)
	postIs(t, 0, []api.Alloc{alloc(-3, 3, 0)}, legs(1, 3, 2, -3), 0, []api.Alloc{{}}, api.OK)
	refused(t, 0, []api.Alloc{alloc(-4, 3, 0)}, legs(1, 3, 2, -3), api.ErrFunds)
	// Legs that come to nothing in an account name it too.
	refused(t, 1, two(), legs(0, 1, 0, -1), api.ErrFunds)
	refused(t, 0, []api.Alloc{alloc(-1, 0, 0)}, legs(1, 1, 1, -1), api.ErrFunds)
}

// P9.2: an account that no leg names has whatever it had.
func TestPostOfOthers(t *testing.T) {
	for _, n := range []int{-1, most + 1, -most - 1, math.MaxInt, math.MinInt} {
		postIs(t, math.MaxInt, []api.Alloc{alloc(5, 6, n), alloc(n, n, n)}, legs(1, -2, 2, 2), math.MaxInt, []api.Alloc{alloc(3, 8, n), alloc(n, n, n)}, api.OK)
		postIs(t, n, []api.Alloc{alloc(n, n, 7), alloc(5, n, n)}, legs(4, 2, 3, -2), n, []api.Alloc{alloc(n, n, 5), alloc(7, n, n)}, api.OK)
	}
	// Nor need all accounts come to nothing.
	postIs(t, 0, []api.Alloc{alloc(5, 6, 7)}, legs(1, -5, 3, 5), 0, []api.Alloc{alloc(0, 6, 12)}, api.OK)
}

// P9.2: legs of no account, and without an amount; the first leg's error first, of one leg ErrNone.
func TestPostLegs(t *testing.T) {
	for _, acct := range []int{-1, -2, -3, 7, 8, 9, 10, math.MaxInt, math.MinInt} {
		refused(t, -150, two(), legs(acct, 1, 0, -1), api.ErrNone)
		refused(t, -150, two(), legs(0, -1, acct, 1), api.ErrNone)
		refused(t, -150, two(), legs(acct, 0), api.ErrNone)
		refused(t, -150, two(), legs(0, 0, acct, 1), api.ErrForm)
		refused(t, -150, two(), legs(acct, 1, 0, 0), api.ErrNone)
		refused(t, -150, two(), legs(1, math.MaxInt, acct, math.MaxInt), api.ErrNone)
		refused(t, -150, two(), legs(1, 1, 2, 1, acct, 1), api.ErrNone)
		refused(t, -150, two(), legs(1, -1000, 2, 1000, acct, 1), api.ErrNone)
	}
	for acct := range 7 {
		refused(t, -150, two(), legs(acct, 0), api.ErrForm)
		refused(t, -150, two(), legs(0, -1, 1, 1, acct, 0), api.ErrForm)
		// A leg alone does not come to nothing.
		refused(t, -150, two(), legs(acct, 1), api.ErrForm)
		refused(t, -150, two(), legs(acct, -1), api.ErrForm)
	}
	for _, none := range [][]api.Alloc{nil, {}} {
		refused(t, -150, none, legs(0, -1, 1, 1), api.ErrNone)
		postIs(t, -150, none, legs(0, -1, 0, 1), -150, nil, api.OK)
	}
	// Ahead of ErrOver: an amount of 0 behind those that do not fit.
	refused(t, -150, two(), legs(1, most+1, 2, 0), api.ErrForm)
	refused(t, -150, two(), legs(1, most, 2, most, 3, 0), api.ErrForm)
}

// P9.2: 1 to 64 legs.
func TestPostHowMany(t *testing.T) {
	refused(t, -150, two(), nil, api.ErrForm)
	refused(t, -150, two(), []api.Leg{}, api.ErrForm)
	refused(t, -150, nil, nil, api.ErrForm)
	pair := legs(0, -1, 1, 1)
	for n := 1; n <= 32; n++ {
		postIs(t, -150, two(), slices.Repeat(pair, n), -150-n, twoWith(10+n, 3, 1, 20, 40, 80), api.OK)
	}
	full := slices.Repeat(pair, 32)
	refused(t, -150, two(), slices.Repeat(pair, 33), api.ErrForm)
	refused(t, -150, two(), append(slices.Repeat(pair, 31), legs(0, -2, 1, 1, 2, 1)...), api.ErrForm)
	refused(t, -150, two(), slices.Repeat(pair, 5000), api.ErrForm)
	// All legs are looked at ahead of how many there are; that is told ahead of what they come to.
	refused(t, -150, two(), append(slices.Clone(full), legs(7, 1)...), api.ErrNone)
	refused(t, -150, two(), append(slices.Clone(full), legs(1, 0, 7, 1)...), api.ErrForm)
	refused(t, -150, two(), append(slices.Clone(full), legs(1, most+1)...), api.ErrForm)
	refused(t, -150, two(), append(slices.Clone(full), legs(1, -1000, 2, 1000)...), api.ErrForm)
}

// P9.2: all Amounts come to nothing, and their sums fit, in the order of the legs.
func TestPostSums(t *testing.T) {
	for _, by := range []int{1, -1, 2, most, -most} {
		refused(t, -150, two(), legs(1, 4, 2, -4, 3, by), api.ErrForm)
		refused(t, -150, two(), legs(3, by), api.ErrForm)
	}
	for _, over := range []int{most + 1, -most - 1, math.MaxInt, math.MinInt} {
		refused(t, -150, two(), legs(1, over), api.ErrOver)
		refused(t, -150, two(), legs(1, 5, 2, over), api.ErrOver)
		refused(t, -150, two(), legs(1, over, 2, -over), api.ErrOver)
	}
	none := []api.Alloc{{}, {}}
	refused(t, 0, none, legs(1, most, 1, 1, 0, -most, 0, -1), api.ErrOver)
	refused(t, 0, none, legs(0, -most, 0, -1, 1, most, 1, 1), api.ErrOver)
	refused(t, 0, none, legs(1, most, 4, most, 0, -most, 2, -most), api.ErrOver)
	postIs(t, 0, none, legs(0, -most, 1, most), -most, []api.Alloc{alloc(most, 0, 0), {}}, api.OK)
	// In one order they do not fit; in another one they do.
	refused(t, 0, none, legs(4, most, 1, 1, 4, -1, 0, -most), api.ErrOver)
	postIs(t, 0, none, legs(4, most, 0, -most, 1, 1, 4, -1), -most, []api.Alloc{alloc(1, 0, 0), alloc(most-1, 0, 0)}, api.OK)
	// ErrOver of all Amounts comes ahead of what any account has.
	refused(t, 0, none, legs(1, -most, 2, -1, 0, most, 0, 1), api.ErrOver)
	refused(t, 0, none, legs(1, -most, 2, -1, 0, most), api.ErrOver)
	refused(t, 0, none, legs(1, -most, 2, most), api.ErrFunds)
	// So does ErrForm of their sum.
	refused(t, 0, none, legs(1, -5, 2, 4), api.ErrForm)
	refused(t, -5, []api.Alloc{alloc(most, 0, 0)}, legs(1, 1, 0, -2), api.ErrForm)
}

// P9.2: in each account its amount and its legs' Amounts, and each sum of the first ones, have to fit.
func TestPostErrOver(t *testing.T) {
	for acct := 1; acct <= 3; acct++ {
		other := acct%3 + 1
		full := func(n int) []api.Alloc {
			list := [3]int{7, 7, 7}
			list[acct-1] = n
			return []api.Alloc{alloc(list[0], list[1], list[2])}
		}
		postIs(t, -9, full(most-1), legs(acct, 1, other, -1), -9, func() []api.Alloc {
			list := [3]int{7, 7, 7}
			list[acct-1], list[other-1] = most, 6
			return []api.Alloc{alloc(list[0], list[1], list[2])}
		}(), api.OK)
		refused(t, -9, full(most), legs(acct, 1, other, -1), api.ErrOver)
		refused(t, -9, full(most), legs(other, -1, acct, 1), api.ErrOver)
		// Its legs one by one, in order.
		refused(t, -9, full(most), legs(acct, 1, acct, -1), api.ErrOver)
		postIs(t, -9, full(most), legs(acct, -1, acct, 1), -9, full(most), api.OK)
		for _, n := range []int{most + 1, -most - 1, math.MaxInt, math.MinInt} {
			refused(t, -9, full(n), legs(acct, -1, other, 1), api.ErrOver)
			refused(t, -9, full(n), legs(acct, 1, other, -1), api.ErrOver)
		}
	}
	refused(t, -most, two(), legs(0, -1, 1, 1), api.ErrOver)
	refused(t, -most, two(), legs(0, -1, 0, 1), api.ErrOver)
	postIs(t, -most, two(), legs(0, 1, 0, -1), -most, two(), api.OK)
	postIs(t, -most+1, two(), legs(0, -1, 1, 1), -most, twoWith(11, 3, 1, 20, 40, 80), api.OK)
	for _, n := range []int{-most - 1, most + 1, math.MaxInt, math.MinInt} {
		refused(t, n, two(), legs(0, -1, 1, 1), api.ErrOver)
		refused(t, n, two(), legs(1, -1, 0, 1), api.ErrOver)
	}
}

// P9.2: of several accounts the error of the one with the least number, in whatever order legs name them.
func TestPostWhichError(t *testing.T) {
	for _, c := range []struct {
		allocs []api.Alloc
		world  int
		legs   []api.Leg
		e      api.Errno
	}{
		{[]api.Alloc{alloc(most, 0, 0)}, 0, legs(1, 1, 2, -1), api.ErrOver},
		{[]api.Alloc{alloc(0, most, 0)}, 0, legs(1, -1, 2, 1), api.ErrFunds},
		{[]api.Alloc{alloc(0, most, 0)}, 0, legs(2, 1, 1, -1), api.ErrFunds},
		{[]api.Alloc{alloc(0, most, 0)}, 0, legs(2, 1, 3, -1), api.ErrOver},
		{[]api.Alloc{alloc(0, 0, 0), alloc(most, 0, 0)}, 0, legs(4, 1, 3, -1), api.ErrFunds},
		{[]api.Alloc{alloc(0, 0, 0), alloc(most, 0, 0)}, 0, legs(5, -1, 4, 1), api.ErrOver},
		{[]api.Alloc{alloc(most, 0, 0)}, 0, legs(1, 1, 0, 1, 2, -2), api.ErrFunds},
		{[]api.Alloc{alloc(0, 0, 0)}, -most, legs(2, -1, 0, -1, 3, 2), api.ErrOver},
		{[]api.Alloc{alloc(0, 0, most)}, 0, legs(3, 1, 2, -1, 0, -1, 1, 1), api.ErrFunds},
		{[]api.Alloc{alloc(0, 0, most)}, -5, legs(3, 1, 0, -1, 1, 1, 0, -1), api.ErrOver},
	} {
		refused(t, c.world, c.allocs, c.legs, c.e)
	}
}

// P9.2: there may be more allocations than a state has; all accounts that 64 legs name.
func TestPostOfMany(t *testing.T) {
	allocs := make([]api.Alloc, 1000)
	for i := range allocs {
		allocs[i] = api.Alloc{Fund: i, From: 2 * i, Until: 3 * i, Avail: 5, Liened: 6, Spent: 7}
	}
	l := legs(0, -63)
	for i := range 63 {
		l = append(l, api.Leg{Acct: 3000 - 31*i, Amount: 1})
	}
	w, list, e := ledger.Post(0, allocs, l)
	if w != -63 || len(list) != 1000 || e != api.OK {
		t.Fatal(w, len(list), e)
	}
	for acct := range 3001 {
		want, _ := ledger.Amount(0, allocs, acct)
		if slices.ContainsFunc(l[1:], func(leg api.Leg) bool { return leg.Acct == acct }) {
			want++
		}
		if n, _ := ledger.Amount(0, list, acct); n != want {
			t.Error(acct, n, want)
		}
	}
	for i, a := range list {
		if a.Fund != i || a.From != 2*i || a.Until != 3*i {
			t.Error(i, a)
		}
	}
	l[63].Acct = 3001
	refused(t, 0, allocs, l, api.ErrNone)
}

// The words of the chapter, one by one, with whole numbers without bound.

func inAccount(world int, allocs []api.Alloc, acct int) (int, bool) {
	if acct == 0 {
		return world, true
	}
	for i, a := range allocs {
		switch acct {
		case 1 + 3*i:
			return a.Avail, true
		case 2 + 3*i:
			return a.Liened, true
		case 3 + 3*i:
			return a.Spent, true
		}
	}
	return 0, false
}

func sumOf(list ...int) (int, api.Errno) {
	end := big.NewInt(most)
	sum := new(big.Int)
	for _, n := range list {
		one := big.NewInt(int64(n))
		sum.Add(sum, one)
		if one.CmpAbs(end) > 0 || sum.CmpAbs(end) > 0 {
			return 0, api.ErrOver
		}
	}
	return int(sum.Int64()), api.OK
}

func formOf(world int, allocs []api.Alloc, l []api.Leg) api.Errno {
	var all []int
	for _, leg := range l {
		if _, ok := inAccount(world, allocs, leg.Acct); !ok {
			return api.ErrNone
		}
		if leg.Amount == 0 {
			return api.ErrForm
		}
		all = append(all, leg.Amount)
	}
	if len(l) < 1 || len(l) > 64 {
		return api.ErrForm
	}
	sum, e := sumOf(all...)
	if e == api.OK && sum != 0 {
		return api.ErrForm
	}
	return e
}

func posted(world int, allocs []api.Alloc, l []api.Leg) (int, []api.Alloc, api.Errno) {
	if e := formOf(world, allocs, l); e != api.OK {
		return 0, nil, e
	}
	amounts := make([]int, 1+3*len(allocs))
	for acct := range amounts {
		amounts[acct], _ = inAccount(world, allocs, acct)
		list := []int{amounts[acct]}
		for _, leg := range l {
			if leg.Acct == acct {
				list = append(list, leg.Amount)
			}
		}
		if len(list) == 1 {
			continue
		}
		sum, e := sumOf(list...)
		if e == api.OK && (acct > 0 && sum < 0 || acct == 0 && sum > 0) {
			e = api.ErrFunds
		}
		if e != api.OK {
			return 0, nil, e
		}
		amounts[acct] = sum
	}
	var after []api.Alloc
	for i, a := range allocs {
		after = append(after, api.Alloc{Fund: a.Fund, From: a.From, Until: a.Until, Avail: amounts[1+3*i], Liened: amounts[2+3*i], Spent: amounts[3+3*i]})
	}
	return amounts[0], after, api.OK
}

func totalOf(world int, allocs []api.Alloc) (int, api.Errno) {
	var list []int
	for acct := range 1 + 3*len(allocs) {
		n, _ := inAccount(world, allocs, acct)
		list = append(list, n)
	}
	return sumOf(list...)
}

// roomy: a list with spare room, which has something.
func roomy[T any](list []T) []T {
	long := append(slices.Clone(list), list...)
	return long[:len(list)]
}

// same: all three calls answer what the words ask for, and change nothing (R4).
func same(t *testing.T, world int, allocs []api.Alloc, l []api.Leg) api.Errno {
	t.Helper()
	allocs, l = roomy(allocs), roomy(l)
	a, b := slices.Clone(allocs[:cap(allocs)]), slices.Clone(l[:cap(l)])
	for acct := -1; acct <= 3*len(allocs)+1; acct++ {
		want, ok := inAccount(world, allocs, acct)
		wantE := api.OK
		if !ok {
			wantE = api.ErrNone
		}
		amountIs(t, world, allocs, acct, want, wantE)
	}
	sum, e := totalOf(world, allocs)
	totalIs(t, world, allocs, sum, e)
	w, list, e := posted(world, allocs, l)
	postIs(t, world, allocs, l, w, list, e)
	if !slices.Equal(allocs[:cap(allocs)], a) || !slices.Equal(l[:cap(l)], b) {
		t.Error("what was handed in was changed", allocs, l)
	}
	return e
}

// P9.1, P9.2: all pairs of legs, with small amounts, over accounts of one allocation.
func TestAllPairs(t *testing.T) {
	for accts := range 25 {
		for amounts := range 49 {
			l := legs(accts/5, amounts/7-3, accts%5, amounts%7-3)
			for _, world := range []int{-2, 0, 2} {
				same(t, world, []api.Alloc{alloc(2, 0, 1)}, l)
				same(t, world, []api.Alloc{alloc(0, -2, most)}, l)
			}
		}
	}
}

// P9.1, P9.2: accounts and legs of any kind, good ones and bad ones; each error comes, and none too often.
func TestAtRandom(t *testing.T) {
	r := rand.New(rand.NewSource(9))
	ends := []int{0, 1, -1, most / 2, most - 1, -most + 1, most, -most, most + 1, -most - 1, math.MaxInt, math.MinInt}
	pick := func(wild bool, n int) int {
		if wild && r.Intn(3) == 0 {
			return ends[r.Intn(len(ends))]
		}
		return r.Intn(n)
	}
	seen := map[api.Errno]int{}
	for range 30000 {
		wild := r.Intn(3) == 0
		allocs := make([]api.Alloc, r.Intn(5))
		for i := range allocs {
			allocs[i] = api.Alloc{Fund: r.Int(), From: r.Int(), Until: r.Int(), Avail: pick(wild, 9), Liened: pick(wild, 9), Spent: pick(wild, 9)}
		}
		var l []api.Leg
		rest := 0
		for range 1 + r.Intn(5) {
			leg := api.Leg{Acct: r.Intn(3*len(allocs) + 1), Amount: pick(wild, 9) - 3}
			if r.Intn(20) == 0 {
				leg.Acct = r.Intn(20) - 3
			}
			rest -= leg.Amount
			l = append(l, leg)
		}
		if rest != 0 && r.Intn(4) > 0 {
			l = append(l, api.Leg{Acct: r.Intn(3*len(allocs) + 1), Amount: rest})
		}
		seen[same(t, -pick(wild, 20), allocs, l)]++
	}
	for _, e := range []api.Errno{api.OK, api.ErrOver, api.ErrForm, api.ErrNone, api.ErrFunds} {
		if seen[e] < 500 {
			t.Error("too few of error", e, seen[e])
		}
	}
}

// P9.2: what one account gets another one gives: however often, Total stays, and nothing is lost on the way.
func TestTotalStays(t *testing.T) {
	r := rand.New(rand.NewSource(10))
	world, allocs := 0, make([]api.Alloc, 4)
	done := 0
	for range 5000 {
		from, to, n := r.Intn(13), r.Intn(13), 1+r.Intn(40)
		before := slices.Clone(allocs)
		w, l, e := ledger.Post(world, allocs, legs(from, -n, to, n))
		if !slices.Equal(allocs, before) {
			t.Fatal("changed", allocs, before)
		}
		if e == api.OK {
			world, allocs = w, l
			done++
		}
		totalIs(t, world, allocs, 0, api.OK)
	}
	if done < 500 {
		t.Error(done)
	}
}

// R4: what Post answers is new memory, spare room included.
func TestPostIsNew(t *testing.T) {
	allocs := roomy(two())
	given := slices.Clone(allocs[:cap(allocs)])
	_, a, _ := ledger.Post(-150, allocs, legs(0, -5, 1, 5))
	_, b, _ := ledger.Post(-150, allocs, legs(0, -5, 1, 5))
	for _, l := range [][]api.Alloc{a, a[:cap(a)]} {
		for i := range l {
			l[i] = api.Alloc{Fund: 77}
		}
	}
	if !slices.Equal(b, twoWith(15, 3, 1, 20, 40, 80)) {
		t.Error(b)
	}
	if !slices.Equal(allocs[:cap(allocs)], given) {
		t.Error(allocs)
	}
	// So it is where nothing comes to be another.
	_, a, _ = ledger.Post(-150, allocs, legs(1, -5, 1, 5))
	a[0].Avail = 99
	if allocs[0].Avail != 10 {
		t.Error(allocs)
	}
	// No list hangs on another that was handed in, even one of nothing with room.
	_, a, _ = ledger.Post(-150, allocs[:0], legs(0, -5, 0, 5))
	_ = append(a, api.Alloc{Fund: 78})
	if !slices.Equal(allocs[:cap(allocs)][1:], given[1:]) || allocs[0].Fund == 78 {
		t.Error(allocs)
	}
}

// P9.1, P9.2: held against the words.
func FuzzLedger(f *testing.F) {
	f.Add([]byte("\x03\x05\x04\x00\x01\x02\x01\x03\x05\x02"), 0, uint8(1))
	f.Add([]byte("aaabbbcccdddeeefffggghhhiii"), -most, uint8(2))
	f.Add([]byte{255, 254, 253, 0, 200, 1, 201, 2, 202, 3, 203}, 5, uint8(1))
	f.Fuzz(func(t *testing.T, b []byte, world int, n uint8) {
		number := func(c byte) int {
			if c < 200 {
				return int(c%32) - 8
			}
			return (int(c)%5-2)<<60 + int(c/5%5) - 2
		}
		var allocs []api.Alloc
		for range n % 5 {
			if len(b) >= 3 {
				allocs = append(allocs, alloc(number(b[0]), number(b[1]), number(b[2])))
				b = b[3:]
			}
		}
		var l []api.Leg
		rest := 0
		for two := range slices.Chunk(b[:min(len(b), 140)], 2) {
			leg := api.Leg{Acct: int(two[0])%(3*len(allocs)+3) - 1}
			if len(two) == 2 {
				leg.Amount = number(two[1])
			}
			rest -= leg.Amount
			l = append(l, leg)
		}
		same(t, world, allocs, l)
		same(t, world, allocs, append(slices.Clone(l), api.Leg{Acct: 0, Amount: rest}))
	})
}
