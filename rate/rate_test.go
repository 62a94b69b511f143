package rate_test

import (
	"math"
	"math/rand"
	"slices"
	"testing"

	"prebend/api"
	"prebend/rate"
)

const most = 1 << 40

func TestLimits(t *testing.T) {
	if api.MaxRates != 16 || api.MaxQoS != 8 || api.MaxTime != most {
		t.Error(api.MaxRates, api.MaxQoS, api.MaxTime)
	}
}

// rates: of each three numbers the class, the tick, and the price.
func rates(numbers ...int) []api.Rate {
	var list []api.Rate
	for three := range slices.Chunk(numbers, 3) {
		list = append(list, api.Rate{QoS: three[0], From: three[1], Price: three[2]})
	}
	return list
}

// goodIs: Good answers that.
func goodIs(t *testing.T, list []api.Rate, want bool) {
	t.Helper()
	if rate.Good(list) != want {
		t.Errorf("Good(%v) should be %v", list, want)
	}
}

// priceIs: Price answers that.
func priceIs(t *testing.T, list []api.Rate, qos, tick, want int) {
	t.Helper()
	if n, e := rate.Price(list, qos, tick); n != want || e != api.OK {
		t.Errorf("Price(%v, %d, %d) is %d, %d; it should be %d", list, qos, tick, n, e, want)
	}
}

// noPrice: Price answers ErrRate, and nothing else.
func noPrice(t *testing.T, list []api.Rate, qos, tick int) {
	t.Helper()
	if n, e := rate.Price(list, qos, tick); n != 0 || e != api.ErrRate {
		t.Errorf("Price(%v, %d, %d) is %d, %d; it should be ErrRate", list, qos, tick, n, e)
	}
}

// P10.1: the chapter's example.
func TestExample(t *testing.T) {
	list := rates(0, 5, 10, 0, 9, 7)
	priceIs(t, list, 0, 8, 10)
	priceIs(t, list, 0, 9, 7)
	noPrice(t, list, 0, 4)
}

// P10.1: Good, of how many there are.
func TestGoodHowMany(t *testing.T) {
	goodIs(t, nil, true)
	goodIs(t, []api.Rate{}, true)
	for n := range 40 {
		// Those of one class, and from one tick on, may be several.
		goodIs(t, slices.Repeat(rates(3, 4, 5), n), n <= 16)
		goodIs(t, make([]api.Rate, n), n <= 16)
	}
	goodIs(t, make([]api.Rate, 5000), false)
	// A list's spare room counts for nothing.
	goodIs(t, make([]api.Rate, 16, 17), true)
	goodIs(t, append(make([]api.Rate, 16), rates(-1, -1, -1)...)[:16], true)
}

// P10.1: Good, of each number at its ends, wherever its rate stands.
func TestGoodEnds(t *testing.T) {
	at := func(place int, one api.Rate) []api.Rate {
		list := slices.Repeat(rates(1, 2, 3), 16)
		list[place] = one
		return list
	}
	for place := range 16 {
		for qos := -3; qos <= 20; qos++ {
			goodIs(t, at(place, api.Rate{QoS: qos}), 0 <= qos && qos <= 7)
		}
		for _, n := range []int{0, 1, 8, 1 << 20, most - 1, most} {
			goodIs(t, at(place, api.Rate{From: n}), true)
			goodIs(t, at(place, api.Rate{Price: n}), true)
			goodIs(t, at(place, api.Rate{QoS: 7, From: n, Price: n}), true)
		}
		for _, n := range []int{-1, -2, -most, most + 1, 2 * most, 1 << 60, math.MaxInt, math.MinInt} {
			goodIs(t, at(place, api.Rate{From: n}), false)
			goodIs(t, at(place, api.Rate{Price: n}), false)
			goodIs(t, at(place, api.Rate{QoS: n}), false)
			goodIs(t, at(place, api.Rate{QoS: n, From: n, Price: n}), false)
		}
	}
	// One alone.
	goodIs(t, rates(0, 0, 0), true)
	goodIs(t, rates(7, most, most), true)
	goodIs(t, rates(8, most, most), false)
	goodIs(t, rates(7, most+1, most), false)
	goodIs(t, rates(7, most, most+1), false)
	goodIs(t, rates(-1, 0, 0), false)
	goodIs(t, rates(0, -1, 0), false)
	goodIs(t, rates(0, 0, -1), false)
}

// P10.1: there is no rate of that class, or none from so early on.
func TestNoPrice(t *testing.T) {
	ends := []int{0, 1, -1, 7, 8, most, math.MaxInt, math.MinInt}
	for _, qos := range ends {
		for _, tick := range ends {
			noPrice(t, nil, qos, tick)
			noPrice(t, []api.Rate{}, qos, tick)
			noPrice(t, rates(3, math.MinInt, 5, 4, math.MinInt, 6), qos, tick)
		}
	}
	for qos := range 8 {
		noPrice(t, rates(qos, 5, 10), qos, 4)
		noPrice(t, rates(qos, 5, 10), qos, 0)
		noPrice(t, rates(qos, 5, 10), qos, math.MinInt)
		noPrice(t, rates(qos, 0, 10), qos, -1)
		noPrice(t, rates(qos, math.MaxInt, 10), qos, math.MaxInt-1)
		noPrice(t, rates(qos, math.MinInt+1, 10), qos, math.MinInt)
		noPrice(t, rates((qos+1)%8, 0, 10), qos, 9)
		noPrice(t, rates(qos, 5, 10, (qos+1)%8, 3, 9), qos, 4)
		// What stands in a list's spare room is no rate of it.
		noPrice(t, rates(qos, 0, 10)[:0], qos, 9)
	}
}

// P10.1: the greatest From that is at most t, in whatever order the rates stand.
func TestPriceFrom(t *testing.T) {
	const early, middle, late = 100, 200, 300
	three := [3][3]int{{2, 10, early}, {2, 20, middle}, {2, 30, late}}
	for _, o := range [][3]int{{0, 1, 2}, {0, 2, 1}, {1, 0, 2}, {1, 2, 0}, {2, 0, 1}, {2, 1, 0}} {
		list := rates(1, 25, 1, 3, 15, 3)
		for _, place := range o {
			list = append(list, rates(three[place][:]...)...)
		}
		list = append(list, rates(1, 15, 4, 3, 25, 5)...)
		for tick := range 60 {
			switch {
			case tick < 10:
				noPrice(t, list, 2, tick)
			case tick < 20:
				priceIs(t, list, 2, tick, early)
			case tick < 30:
				priceIs(t, list, 2, tick, middle)
			default:
				priceIs(t, list, 2, tick, late)
			}
		}
		priceIs(t, list, 2, math.MaxInt, late)
		noPrice(t, list, 2, math.MinInt)
	}
	priceIs(t, rates(0, most, most), 0, most, most)
	noPrice(t, rates(0, most, most), 0, most-1)
	// A price of 0 is one.
	priceIs(t, rates(0, 0, 0), 0, 0, 0)
	priceIs(t, rates(0, 0, 9, 0, 4, 0), 0, 4, 0)
	priceIs(t, rates(0, 4, 0, 0, 0, 9), 0, 5, 0)
}

// P10.1: of several from the same tick on, the last one, be it dearer or cheaper.
func TestPriceTies(t *testing.T) {
	list := rates(0, 5, 10, 0, 5, 12, 0, 5, 11)
	noPrice(t, list, 0, 4)
	priceIs(t, list, 0, 5, 11)
	priceIs(t, list, 0, 99, 11)
	priceIs(t, list[:2], 0, 5, 12)
	priceIs(t, list[:1], 0, 5, 10)
	// Neither one from earlier on nor one of another class behind it comes before it.
	list = append(list, rates(0, 4, 1, 1, 5, 2, 0, 6, 3)...)
	priceIs(t, list, 0, 5, 11)
	priceIs(t, list, 0, 4, 1)
	priceIs(t, list, 0, 6, 3)
	priceIs(t, list, 1, 6, 2)
	priceIs(t, append(list, rates(0, 6, 4, 0, 5, 8)...), 0, 6, 4)
	priceIs(t, append(list, rates(0, 6, 4, 0, 5, 8)...), 0, 5, 8)
	for _, from := range []int{0, -1, most, math.MaxInt, math.MinInt} {
		priceIs(t, rates(0, from, 6, 0, from, 7), 0, from, 7)
		priceIs(t, rates(0, from, 7, 0, from, 6), 0, math.MaxInt, 6)
	}
}

// P10.1, R1: rates that may not be have prices too.
func TestPriceOfBadRates(t *testing.T) {
	for _, qos := range []int{-1, 8, 9, math.MaxInt, math.MinInt} {
		priceIs(t, rates(0, 0, 1, qos, 3, 4, 7, 9, 2), qos, 3, 4)
		noPrice(t, rates(0, 0, 1, qos, 3, 4, 7, 9, 2), qos, 2)
	}
	for _, price := range []int{-1, -most, most + 1, math.MaxInt, math.MinInt} {
		priceIs(t, rates(0, 0, 1, 0, 3, price), 0, 3, price)
		priceIs(t, rates(0, 0, 1, 0, 3, price), 0, 2, 1)
	}
	priceIs(t, rates(0, -5, 1, 0, -3, 2), 0, -4, 1)
	priceIs(t, rates(0, -5, 1, 0, -3, 2), 0, -3, 2)
	priceIs(t, rates(0, -3, 2, 0, -5, 1), 0, 0, 2)
	priceIs(t, rates(0, math.MinInt, 6), 0, math.MinInt, 6)
	priceIs(t, rates(0, math.MinInt, 6, 0, -1, 7), 0, -2, 6)
	priceIs(t, rates(0, math.MaxInt, 6, 0, math.MinInt, 7), 0, math.MaxInt, 6)
	priceIs(t, rates(0, math.MaxInt, 6, 0, math.MinInt, 7), 0, math.MaxInt-1, 7)
	// Nor is it asked how many there are.
	many := slices.Repeat(rates(5, 1, 1), 5000)
	many[2500] = api.Rate{QoS: 5, From: 2, Price: 3}
	many[4999] = api.Rate{QoS: 5, From: 1, Price: 4}
	priceIs(t, many, 5, 2, 3)
	priceIs(t, many, 5, 1, 4)
	noPrice(t, many, 5, 0)
}

// The words of the chapter, one by one.

func mayBe(list []api.Rate) bool {
	if len(list) > 16 {
		return false
	}
	for _, r := range list {
		if r.QoS < 0 || r.QoS > 7 || r.From < 0 || r.From > most || r.Price < 0 || r.Price > most {
			return false
		}
	}
	return true
}

func priceOf(list []api.Rate, qos, tick int) (int, api.Errno) {
	fits := slices.DeleteFunc(slices.Clone(list), func(r api.Rate) bool { return r.QoS != qos || r.From > tick })
	if len(fits) == 0 {
		return 0, api.ErrRate
	}
	slices.SortStableFunc(fits, func(a, b api.Rate) int {
		switch {
		case a.From < b.From:
			return -1
		case a.From > b.From:
			return 1
		}
		return 0
	})
	return fits[len(fits)-1].Price, api.OK
}

// same: both calls answer what the words ask for, twice, and change nothing, spare room included (R4, R5).
func same(t *testing.T, list []api.Rate, qos, tick int) api.Errno {
	t.Helper()
	list = append(slices.Clone(list), list...)[:len(list)]
	given := slices.Clone(list[:cap(list)])
	want, wantE := priceOf(list, qos, tick)
	for range 2 {
		goodIs(t, list, mayBe(list))
		if n, e := rate.Price(list, qos, tick); n != want || e != wantE {
			t.Errorf("Price(%v, %d, %d) is %d, %d; it should be %d, %d", list, qos, tick, n, e, want, wantE)
		}
	}
	if !slices.Equal(list[:cap(list)], given) {
		t.Error("what was handed in was changed", list, given)
	}
	return wantE
}

// P10.1: all lists of up to three rates, of two classes, and from three ticks on.
func TestAllSmallLists(t *testing.T) {
	const kinds = 6
	for n := range kinds*kinds*kinds + kinds*kinds + kinds + 1 {
		var list []api.Rate
		// Written to the base of kinds with digits from 1 on, each list has one number.
		for price := 10; n > 0; price++ {
			n--
			list = append(list, api.Rate{QoS: n % 2, From: n / 2 % 3, Price: price})
			n /= kinds
		}
		for qos := range 3 {
			for tick := -1; tick <= 3; tick++ {
				same(t, list, qos, tick)
				slices.Reverse(list)
				same(t, list, qos, tick)
			}
		}
	}
}

// P10.1: rates of any kind, good ones and bad ones.
func TestAtRandom(t *testing.T) {
	r := rand.New(rand.NewSource(10))
	ends := []int{0, 1, -1, 7, 8, most - 1, most, most + 1, math.MaxInt, math.MinInt}
	pick := func(wild bool, n int) int {
		if wild && r.Intn(20) == 0 {
			return ends[r.Intn(len(ends))]
		}
		return r.Intn(n)
	}
	good, priced := map[bool]int{}, map[api.Errno]int{}
	for range 30000 {
		wild := r.Intn(2) == 0
		list := make([]api.Rate, r.Intn(19))
		for i := range list {
			list[i] = api.Rate{QoS: pick(wild, 8), From: pick(wild, 12), Price: pick(wild, 100)}
		}
		priced[same(t, list, pick(wild, 9), pick(wild, 14)-1)]++
		good[mayBe(list)]++
	}
	if good[true] < 5000 || good[false] < 5000 || priced[api.OK] < 5000 || priced[api.ErrRate] < 5000 {
		t.Error("too few of a kind", good, priced)
	}
}

// P10.1: held against the words.
func FuzzRate(f *testing.F) {
	f.Add([]byte("\x00\x05\x0a\x00\x09\x07"), 0, 8)
	f.Add([]byte("aaabbbcccdddeeefffggghhhiiijjjkkklllmmmnnnoooppp"), 1, most)
	f.Add([]byte{255, 254, 253, 0, 200, 1, 201, 2, 202, 3, 203}, -1, math.MinInt)
	f.Fuzz(func(t *testing.T, b []byte, qos, tick int) {
		number := func(c byte) int {
			if c < 200 {
				return int(c % 8)
			}
			return (int(c)%5-2)<<40 + int(c/5%5) - 2
		}
		var list []api.Rate
		for three := range slices.Chunk(b[:min(len(b), 60)/3*3], 3) {
			list = append(list, api.Rate{QoS: number(three[0]), From: number(three[1]), Price: number(three[2])})
		}
		same(t, list, qos, tick)
		for _, one := range list {
			same(t, list, one.QoS, tick)
			same(t, list, one.QoS, one.From)
			same(t, list, one.QoS, one.From-1)
		}
	})
}
