package order_test

import (
	"math"
	"math/rand"
	"reflect"
	"slices"
	"testing"

	"prebend/api"
	"prebend/order"
)

func TestLimits(t *testing.T) {
	if api.Queued != 1 || api.Held != 2 || api.Running != 3 || api.Done != 4 {
		t.Error(api.Queued, api.Held, api.Running, api.Done)
	}
	if api.MaxJobs != 16 || api.MaxPrio != 1<<20 {
		t.Error(api.MaxJobs, api.MaxPrio)
	}
}

// queued: a job that is, and wants what no other one of these does.
func queued(prio, id int) api.Job {
	return api.Job{Prio: prio, ID: id, State: api.Queued, Nodes: 100*prio + id, Wall: 7 * id}
}

// orderIs: Order answers these places, and Asks what the jobs there want.
func orderIs(t *testing.T, jobs []api.Job, want ...int) {
	t.Helper()
	if places := order.Order(jobs); !slices.Equal(places, want) {
		t.Errorf("Order(%v) is %v; it should be %v", jobs, places, want)
	}
	var wants []api.Ask
	for _, place := range want {
		wants = append(wants, api.Ask{Nodes: jobs[place].Nodes, Wall: jobs[place].Wall})
	}
	asksAre(t, jobs, wants...)
}

// asksAre: Asks answers these.
func asksAre(t *testing.T, jobs []api.Job, want ...api.Ask) {
	t.Helper()
	if asks := order.Asks(jobs); !slices.Equal(asks, want) {
		t.Errorf("Asks(%v) is %v; it should be %v", jobs, asks, want)
	}
}

// ahead: does the words' order put the job at i before that at k?
func ahead(jobs []api.Job, i, k int) bool {
	one, other := jobs[i], jobs[k]
	if one.Prio != other.Prio {
		return one.Prio > other.Prio
	}
	if one.ID != other.ID {
		return one.ID < other.ID
	}
	return i < k
}

// places: by the words, one for one: where a job stands is how many that are queued are ahead of it.
func places(jobs []api.Job) []int {
	at := map[int]int{}
	for i, j := range jobs {
		if j.State != 1 {
			continue
		}
		before := 0
		for k, other := range jobs {
			if other.State == 1 && ahead(jobs, k, i) {
				before++
			}
		}
		at[before] = i
	}
	var list []int
	for rank := range len(at) {
		list = append(list, at[rank])
	}
	return list
}

// P15.1: the chapter's example.
func TestExample(t *testing.T) {
	jobs := []api.Job{queued(1, 1), queued(5, 2), queued(1, 3)}
	orderIs(t, jobs, 1, 0, 2)
	asksAre(t, jobs, api.Ask{Nodes: 502, Wall: 14}, api.Ask{Nodes: 101, Wall: 7}, api.Ask{Nodes: 103, Wall: 21})
}

// P15.1: of none, nothing, be the list nil or empty.
func TestNone(t *testing.T) {
	orderIs(t, nil)
	orderIs(t, []api.Job{})
	orderIs(t, make([]api.Job, 3))
	orderIs(t, []api.Job{{ID: 1, State: api.Held}, {ID: 2, State: api.Running}, {ID: 3, State: api.Done}})
}

// P15.1: a job of another state, also of none that there is, has no place.
func TestStates(t *testing.T) {
	orderIs(t, []api.Job{queued(0, 0)}, 0)
	states := []int{0, 2, 3, 4, 5, -1, 1 << 32, 1<<32 + 1, math.MaxInt, math.MinInt, math.MinInt + 1}
	for _, state := range states {
		other := queued(9, 0)
		other.State = state
		orderIs(t, []api.Job{other})
		orderIs(t, []api.Job{other, queued(1, 5)}, 1)
		orderIs(t, []api.Job{queued(1, 5), other}, 0)
		orderIs(t, []api.Job{queued(1, 5), other, queued(2, 6), other, queued(1, 4)}, 2, 4, 0)
	}
}

// P15.1: a greater Prio comes ahead of whatever ID and place.
func TestPrio(t *testing.T) {
	orderIs(t, []api.Job{queued(1, 1), queued(2, 9)}, 1, 0)
	orderIs(t, []api.Job{queued(2, 9), queued(1, 1)}, 0, 1)
	orderIs(t, []api.Job{queued(0, 1), queued(1<<20, 9), queued(1<<20-1, 5)}, 1, 2, 0)
	orderIs(t, []api.Job{queued(-2, 1), queued(-1, 2), queued(0, 3)}, 2, 1, 0)
}

// P15.1: of one Prio the lesser ID is first, whatever its place.
func TestID(t *testing.T) {
	orderIs(t, []api.Job{queued(3, 2), queued(3, 1)}, 1, 0)
	orderIs(t, []api.Job{queued(3, 1), queued(3, 2)}, 0, 1)
	orderIs(t, []api.Job{queued(3, 10), queued(3, 9), queued(3, -1), queued(3, 0)}, 2, 3, 1, 0)
	orderIs(t, []api.Job{queued(3, 4), queued(8, 4), queued(3, 2), queued(8, 6)}, 1, 3, 2, 0)
}

// P15.1: of one Prio and one ID the lower place is first, whatever else the jobs have.
func TestPlace(t *testing.T) {
	one, other := queued(3, 4), queued(3, 4)
	one.Nodes, one.Wall, one.Fund, one.QoS, one.Price, one.Start = 9, 9, 9, 9, 9, 9
	orderIs(t, []api.Job{one, other}, 0, 1)
	orderIs(t, []api.Job{other, one}, 0, 1)
	orderIs(t, []api.Job{one, queued(4, 5), other, queued(3, 3), one, other}, 1, 3, 0, 2, 4, 5)
	var alike []api.Job
	var want []int
	for place := range 300 {
		alike = append(alike, one)
		want = append(want, place)
		orderIs(t, alike, want...)
	}
}

// P15.1: numbers at their ends, whose difference does not fit.
func TestEnds(t *testing.T) {
	low, high := math.MinInt, math.MaxInt
	ends := func(prio, id int) api.Job {
		return api.Job{Prio: prio, ID: id, State: api.Queued, Nodes: id, Wall: prio}
	}
	orderIs(t, []api.Job{ends(low, 0), ends(high, 0)}, 1, 0)
	orderIs(t, []api.Job{ends(high, 0), ends(low, 0)}, 0, 1)
	orderIs(t, []api.Job{ends(0, high), ends(0, low)}, 1, 0)
	orderIs(t, []api.Job{ends(0, low), ends(0, high)}, 0, 1)
	orderIs(t, []api.Job{ends(low, low), ends(-1, high), ends(low, high), ends(high, high), ends(high, low), ends(1, low)}, 4, 3, 5, 1, 0, 2)
	orderIs(t, []api.Job{ends(low+1, 0), ends(low, 0), ends(high-1, 0), ends(high, 0)}, 3, 2, 0, 1)
}

// P15.1: Asks has Nodes and Wall as they are, of jobs also that want what there cannot be.
func TestAsks(t *testing.T) {
	jobs := []api.Job{
		{ID: 9, Fund: 1, Nodes: 2, Wall: 3, QoS: 4, Prio: 5, Price: 6, State: api.Queued, Start: 7, Mask: 8, Used: 10, Draws: []api.Draw{{Alloc: 1, Amount: 2}}},
		{ID: 1, Nodes: math.MinInt, Wall: math.MaxInt, State: api.Queued},
		{ID: 2, Nodes: 11, Wall: 12, Prio: 99, State: api.Held},
		{ID: 3, Nodes: 0, Wall: -1, Prio: 6, State: api.Queued},
	}
	orderIs(t, jobs, 3, 0, 1)
	asksAre(t, jobs, api.Ask{Nodes: 0, Wall: -1}, api.Ask{Nodes: 2, Wall: 3}, api.Ask{Nodes: math.MinInt, Wall: math.MaxInt})
}

// copyOf: jobs that share nothing with those.
func copyOf(jobs []api.Job) []api.Job {
	list := slices.Clone(jobs)
	for place := range list {
		list[place].Draws = slices.Clone(list[place].Draws)
	}
	return list
}

// P15.1: the jobs stay as they are, the spare room of their list too (R4).
func TestNothingIsChanged(t *testing.T) {
	all := []api.Job{queued(1, 3), queued(1, 2), queued(5, 9), queued(7, 7), queued(8, 8)}
	for place := range all {
		all[place].Draws = []api.Draw{{Alloc: place, Amount: 1}}
	}
	before := copyOf(all)
	orderIs(t, all[:3], 2, 1, 0)
	if !reflect.DeepEqual(all, before) {
		t.Error(all)
	}
}

// P15.1: answers share nothing with each other, spare room included (R4, R5).
func TestAnswersAreNew(t *testing.T) {
	jobs := []api.Job{queued(1, 3), queued(1, 2), queued(5, 9)}
	places, asks := order.Order(jobs), order.Asks(jobs)
	places, asks = places[:cap(places)], asks[:cap(asks)]
	for k := range places {
		places[k] = 77
	}
	for k := range asks {
		asks[k] = api.Ask{Nodes: 77, Wall: 77}
	}
	orderIs(t, jobs, 2, 1, 0)
	jobs[0].Prio = 9
	orderIs(t, jobs, 0, 2, 1)
}

// P15.1: all lists of up to 4 jobs of two states, two Prios and two IDs.
func TestAllSmallLists(t *testing.T) {
	kind := func(k int) api.Job {
		return api.Job{State: 1 + k&1, Prio: k >> 1 & 1, ID: k >> 2 & 1}
	}
	for count := range 5 {
		for code := range 1 << (3 * count) {
			var jobs []api.Job
			for place := range count {
				j := kind(code >> (3 * place))
				j.Nodes, j.Wall = place+1, place+10
				jobs = append(jobs, j)
			}
			orderIs(t, jobs, places(jobs)...)
		}
	}
}

// P15.1: lists of jobs, many of them alike.
func TestAtRandom(t *testing.T) {
	r := rand.New(rand.NewSource(15))
	enough := map[string]int{}
	for range 3000 {
		var jobs []api.Job
		for place := range r.Intn(40) {
			jobs = append(jobs, api.Job{ID: r.Intn(6), Prio: r.Intn(4), State: r.Intn(3), Nodes: place, Wall: r.Int()})
		}
		list := places(jobs)
		orderIs(t, jobs, list...)
		for k := range max(len(list), 1) - 1 {
			one, next := jobs[list[k]], jobs[list[k+1]]
			switch {
			case one.Prio != next.Prio:
				enough["prio"]++
			case one.ID != next.ID:
				enough["id"]++
			default:
				enough["place"]++
			}
		}
	}
	if enough["prio"] < 1000 || enough["id"] < 1000 || enough["place"] < 1000 {
		t.Error("too few of a kind", enough)
	}
}

// P15.1: held against the words.
func FuzzOrder(f *testing.F) {
	f.Add([]byte{1, 1, 1, 1, 5, 2, 1, 1, 3}, 1)
	f.Add([]byte{1, 0, 0, 1, 0, 0, 2, 0, 0, 1, 255, 255}, math.MaxInt)
	f.Add([]byte{}, math.MinInt)
	f.Fuzz(func(t *testing.T, data []byte, by int) {
		var jobs []api.Job
		for ; len(data) >= 3 && len(jobs) < 200; data = data[3:] {
			jobs = append(jobs, api.Job{State: int(data[0] & 3), Prio: int(data[1]) * by, ID: int(data[2]) * by, Nodes: len(data), Wall: by})
		}
		orderIs(t, jobs, places(jobs)...)
	})
}
