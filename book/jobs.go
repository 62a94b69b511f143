package book

import (
	"slices"

	"prebend/api"
	"prebend/draw"
	"prebend/job"
	"prebend/money"
	"prebend/pool"
)

// jobIn: the place of the job with an ID, if it is in one of these states.
func jobIn(s *api.State, id int, states ...int) (int, api.Errno) {
	place := job.Find(s.Jobs, id)
	if place < 0 {
		return none, api.ErrNone
	}
	if !slices.Contains(states, s.Jobs[place].State) {
		return none, api.ErrState
	}
	return place, api.OK
}

// turn: a job from one state to another one.
func turn(s *api.State, id, from, to int) api.Errno {
	place, e := jobIn(s, id, from)
	if e != api.OK {
		return e
	}
	s.Jobs[place].State = to
	return api.OK
}

func submit(s *api.State, t api.Tx) api.Errno {
	a := t.Args
	j := api.Job{ID: s.Next, Fund: a[0], Nodes: a[1], Wall: a[2], QoS: a[3], Prio: a[4], Price: a[5], State: api.Queued}
	if !isFund(s, j.Fund) {
		return api.ErrNone
	}
	if !job.Good(j) {
		return api.ErrArg
	}
	if len(s.Jobs) >= api.MaxJobs {
		place := leastDone(s.Jobs)
		if place == none {
			return api.ErrMany
		}
		s.Jobs = slices.Delete(s.Jobs, place, place+1)
	}
	s.Jobs = append(s.Jobs, j)
	s.Next++
	return api.OK
}

// leastDone: the first place of the least ID of those that are Done; none, if none is.
func leastDone(jobs []api.Job) int {
	least := none
	for place, j := range jobs {
		if j.State == api.Done && (least == none || j.ID < jobs[least].ID) {
			least = place
		}
	}
	return least
}

func hold(s *api.State, t api.Tx) api.Errno { return turn(s, t.Args[0], api.Queued, api.Held) }

func free(s *api.State, t api.Tx) api.Errno { return turn(s, t.Args[0], api.Held, api.Queued) }

func cancel(s *api.State, t api.Tx) api.Errno {
	place, e := jobIn(s, t.Args[0], api.Queued, api.Held)
	if e != api.OK {
		return e
	}
	s.Jobs = slices.Delete(s.Jobs, place, place+1)
	return api.OK
}

func requeue(s *api.State, t api.Tx) ([]api.Leg, api.Errno) {
	place, e := jobIn(s, t.Args[0], api.Running)
	if e != api.OK {
		return nil, e
	}
	j := &s.Jobs[place]
	legs := draw.Free(j.Draws)
	j.State, j.Start, j.Mask, j.Draws = api.Queued, 0, 0, nil
	return legs, api.OK
}

// end: a job is charged for what it used, and nothing of it is liened any more.
func end(s *api.State, t api.Tx) ([]api.Leg, api.Errno) {
	place, e := jobIn(s, t.Args[0], api.Running)
	if e != api.OK {
		return nil, e
	}
	j, used := &s.Jobs[place], t.Args[1]
	if used < 0 || used > j.Wall {
		return nil, api.ErrArg
	}
	price, e := money.Cost(j.Nodes, used, j.Price)
	if e != api.OK {
		return nil, e
	}
	charged, e := draw.Charge(j.Draws, price)
	if e != api.OK {
		return nil, e
	}
	legs := draw.Spend(j.Draws, charged)
	j.State, j.Used, j.Mask, j.Draws = api.Done, used, 0, thatAreAny(charged)
	return legs, api.OK
}

// refund: of what a job was charged, some is given back.
func refund(s *api.State, t api.Tx) ([]api.Leg, api.Errno) {
	place, e := jobIn(s, t.Args[0], api.Done)
	if e != api.OK {
		return nil, e
	}
	j, amount := &s.Jobs[place], t.Args[1]
	if amount < 1 {
		return nil, api.ErrArg
	}
	back, e := draw.Charge(j.Draws, amount)
	if e != api.OK {
		return nil, e
	}
	for i, d := range back {
		j.Draws[i].Amount -= d.Amount
	}
	j.Draws = thatAreAny(j.Draws)
	return draw.Back(back), api.OK
}

// start: a job's whole price is liened ahead of its first tick.
func start(s *api.State, t api.Tx) ([]api.Leg, api.Errno) {
	place, e := jobIn(s, t.Args[0], api.Queued)
	if e != api.OK {
		return nil, e
	}
	j, mask := &s.Jobs[place], t.Args[1]
	if mask&pool.All(api.MaxNodes) != mask || pool.Count(mask) != j.Nodes {
		return nil, api.ErrArg
	}
	if mask&job.Mask(s.Jobs) != 0 {
		return nil, api.ErrNodes
	}
	price, e := money.Cost(j.Nodes, j.Wall, j.Price)
	if e != api.OK {
		return nil, e
	}
	draws, e := draw.Draws(s.Funds, s.Allocs, j.Fund, price, t.Time)
	if e != api.OK {
		return nil, e
	}
	j.State, j.Start, j.Mask, j.Draws = api.Running, t.Time, mask, draws
	return draw.Lien(draws), api.OK
}

// thatAreAny: draws without those of nothing.
func thatAreAny(draws []api.Draw) []api.Draw {
	return slices.DeleteFunc(draws, func(d api.Draw) bool { return d.Amount == 0 })
}
