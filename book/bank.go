package book

import (
	"prebend/api"
	"prebend/rate"
	"prebend/tree"
)

// ofWorld: the number of the world's account.
const ofWorld = 0

// available: the number of the account of what an allocation has available.
func available(alloc int) int { return 1 + 3*alloc }

// move: the legs from one account to another.
func move(from, to, amount int) []api.Leg {
	return []api.Leg{{Acct: from, Amount: -amount}, {Acct: to, Amount: amount}}
}

// isFund: is there one at that place?
func isFund(s *api.State, f int) bool { return 0 <= f && f < len(s.Funds) }

// isAlloc: is there one at that place?
func isAlloc(s *api.State, a int) bool { return 0 <= a && a < len(s.Allocs) }

func addFund(s *api.State, t api.Tx) api.Errno {
	if len(s.Funds) >= api.MaxFunds {
		return api.ErrMany
	}
	s.Funds = append(s.Funds, api.Fund{Name: t.Name, Parent: t.Args[0], Limit: t.Args[1]})
	if !tree.Good(s.Funds) {
		return api.ErrArg
	}
	return api.OK
}

func addAlloc(s *api.State, t api.Tx) ([]api.Leg, api.Errno) {
	a, amount := api.Alloc{Fund: t.Args[0], From: t.Args[1], Until: t.Args[2]}, t.Args[3]
	if !isFund(s, a.Fund) {
		return nil, api.ErrNone
	}
	if a.From < 0 || a.Until <= a.From || a.Until > api.MaxTime || amount < 1 {
		return nil, api.ErrArg
	}
	if len(s.Allocs) >= api.MaxAllocs {
		return nil, api.ErrMany
	}
	place := len(s.Allocs)
	s.Allocs = append(s.Allocs, a)
	return move(ofWorld, available(place), amount), api.OK
}

func deposit(s *api.State, t api.Tx) ([]api.Leg, api.Errno) {
	alloc, amount := t.Args[0], t.Args[1]
	if !isAlloc(s, alloc) {
		return nil, api.ErrNone
	}
	if amount < 1 {
		return nil, api.ErrArg
	}
	return move(ofWorld, available(alloc), amount), api.OK
}

func withdraw(s *api.State, t api.Tx) ([]api.Leg, api.Errno) {
	alloc, amount := t.Args[0], t.Args[1]
	if !isAlloc(s, alloc) {
		return nil, api.ErrNone
	}
	if amount < 1 {
		return nil, api.ErrArg
	}
	return move(available(alloc), ofWorld, amount), api.OK
}

func transfer(s *api.State, t api.Tx) ([]api.Leg, api.Errno) {
	from, to, amount := t.Args[0], t.Args[1], t.Args[2]
	if !isAlloc(s, from) || !isAlloc(s, to) {
		return nil, api.ErrNone
	}
	if from == to || amount < 1 {
		return nil, api.ErrArg
	}
	return move(available(from), available(to), amount), api.OK
}

func addRate(s *api.State, t api.Tx) api.Errno {
	if len(s.Rates) >= api.MaxRates {
		return api.ErrMany
	}
	s.Rates = append(s.Rates, api.Rate{QoS: t.Args[0], From: t.Args[1], Price: t.Args[2]})
	if !rate.Good(s.Rates) {
		return api.ErrArg
	}
	return api.OK
}

// expire: what is left of allocations that are good no more goes back to the world.
func expire(s *api.State, t api.Tx) ([]api.Leg, api.Errno) {
	var legs []api.Leg
	for place, a := range s.Allocs {
		if a.Until <= t.Time && a.Avail > 0 {
			legs = append(legs, move(available(place), ofWorld, a.Avail)...)
		}
	}
	if len(legs) == 0 {
		return nil, api.ErrNone
	}
	return legs, api.OK
}
