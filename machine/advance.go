package machine

import (
	"slices"

	"trustquorum/api"
	"trustquorum/ballots"
	"trustquorum/blocking"
	"trustquorum/commit"
	"trustquorum/data"
	"trustquorum/envelopes"
	"trustquorum/prepare"
)

// advance is a machine that advances.
type advance struct{ api.Machine }

// Advance returns the machine that has done all that it can do.
func Advance(m api.Machine) api.Machine {
	next := data.Machine(m)
	if !Check(m) {
		return next
	}
	a := &advance{numbered(next)}
	parts := []func() bool{a.acceptPrepared, a.confirmPrepared, a.acceptCommit, a.confirmCommit, a.catchUp}
	// Each part raises ballots, the phase or a range, or does nothing; so there is an end.
	for slices.ContainsFunc(parts, func(part func() bool) bool { return part() }) {
		a.Machine = numbered(a.Machine)
	}
	return a.Machine
}

// state is what the parts of an advance change.
type state struct {
	phase                              int
	ballot, prepared, prime, confirmed api.Ballot
	low, high                          int
}

// state returns the state of the machine.
func (a *advance) state() state {
	return state{a.Phase, a.Ballot, a.Prepared, a.Prime, a.Confirmed, a.Low, a.High}
}

// known returns the envelopes that the node has, its own one among them.
func (a *advance) known() []api.Envelope {
	l := slices.Clone(a.Heard)
	if hasBallot(a.Machine) {
		l = append(l, message(a.Machine))
	}
	return l
}

// acceptPrepared accepts a ballot as prepared. A vote to commit what is aborted by that is withdrawn.
func (a *advance) acceptPrepared() bool {
	if a.Phase == api.PhaseExternal || !hasBallot(a.Machine) {
		return false
	}
	value := ""
	if a.Phase == api.PhaseCommit {
		value = a.Ballot.Value
	}
	before := a.state()
	b := prepare.Next(a.Node, a.Trust, a.known(), a.Prepared, a.Prime, value)
	if b.Counter == api.Infinity {
		b.Counter = api.MaxCounter
	}
	a.Prepared, a.Prime = prepare.Join(a.Prepared, a.Prime, b)
	if a.Phase == api.PhasePrepare && a.Low != 0 {
		a.Low = ballots.Lowest(a.Ballot.Value, a.Low, a.Prepared, a.Prime)
		if a.Low > message(a.Machine).High {
			a.Low = 0
		}
	}
	return a.state() != before
}

// confirmPrepared confirms a ballot as prepared, and votes to commit it.
func (a *advance) confirmPrepared() bool {
	if a.Phase != api.PhasePrepare || !hasBallot(a.Machine) {
		return false
	}
	b := prepare.Highest(a.Node, a.Trust, a.known(), a.Confirmed)
	if ballots.Zero(b) {
		return false
	}
	a.Confirmed = b
	if ballots.Less(a.Ballot, b) {
		a.setBallot(b)
	}
	if a.Low == 0 && ballots.Compatible(a.Ballot, b) {
		low := ballots.Lowest(a.Ballot.Value, a.Ballot.Counter, a.Prepared, a.Prime)
		if low <= b.Counter {
			a.Low = low
		}
	}
	return true
}

// setBallot gives the machine another ballot. Votes to commit are for one value alone.
func (a *advance) setBallot(b api.Ballot) {
	if !ballots.Compatible(a.Ballot, b) {
		a.Low = 0
	}
	a.Ballot = b
}

// acceptCommit accepts a commit, or more of it.
func (a *advance) acceptCommit() bool {
	switch a.Phase {
	case api.PhasePrepare:
		return a.firstCommit()
	case api.PhaseCommit:
		return a.moreCommits()
	}
	return false
}

// firstCommit accepts a first commit.
func (a *advance) firstCommit() bool {
	value, low, high, ok := commit.First(a.Node, a.Trust, a.known(), a.Prepared, a.Prime)
	if !ok {
		return false
	}
	b := api.Ballot{Counter: high, Value: value}
	if ballots.Less(a.Ballot, b) || !ballots.Compatible(a.Ballot, b) {
		a.Ballot = api.Ballot{Counter: max(a.Ballot.Counter, high), Value: value}
	}
	if ballots.Less(a.Prepared, b) || !ballots.Compatible(a.Prepared, b) {
		a.Prepared = b
	}
	a.Phase, a.Low, a.High, a.Confirmed, a.Prime = api.PhaseCommit, low, high, b, api.Ballot{}
	return true
}

// moreCommits raises the range of the accepted commits.
func (a *advance) moreCommits() bool {
	before := a.state()
	a.Low, a.High = commit.Extend(a.Node, a.Trust, a.known(), a.Ballot.Value, a.Low, a.High)
	b := api.Ballot{Counter: a.High, Value: a.Ballot.Value}
	for _, x := range []*api.Ballot{&a.Ballot, &a.Confirmed, &a.Prepared} {
		if x.Counter < a.High {
			*x = b
		}
	}
	return a.state() != before
}

// confirmCommit confirms a commit: that decides the slot.
func (a *advance) confirmCommit() bool {
	if a.Phase != api.PhaseCommit {
		return false
	}
	low, high, ok := commit.Final(a.Node, a.Trust, a.known(), a.Ballot.Value)
	if !ok {
		return false
	}
	a.Phase, a.Low, a.High = api.PhaseExternal, low, high
	a.Ballot.Counter = high
	a.Prepared, a.Prime, a.Confirmed = api.Ballot{}, api.Ballot{}, api.Ballot{}
	return true
}

// catchUp goes to a greater counter, if nodes with greater ones block the node.
func (a *advance) catchUp() bool {
	if a.Phase == api.PhaseExternal || !a.blockedBeyond(a.Ballot.Counter) {
		return false
	}
	next := a.Ballot
	next.Counter = min(a.least(), api.MaxCounter)
	if a.Phase == api.PhasePrepare {
		next.Value = newValue(a.Machine)
	}
	if next == a.Ballot {
		return false
	}
	a.setBallot(next)
	return true
}

// blockedBeyond reports whether the nodes with counters greater than n block the node.
func (a *advance) blockedBeyond(n int) bool {
	ahead := data.List(a.Heard, func(e api.Envelope) bool { return envelopes.Counter(e) > n })
	return blocking.Blocks(prepare.View(a.Node, a.Trust, a.known()), a.Node, envelopes.Set(a.Heard, ahead))
}

// least returns the least counter above that of the ballot beyond which the node is not blocked any more.
func (a *advance) least() int {
	var counters []int
	for _, e := range a.Heard {
		if n := envelopes.Counter(e); n > a.Ballot.Counter {
			counters = append(counters, n)
		}
	}
	slices.Sort(counters)
	i := slices.IndexFunc(counters, func(n int) bool { return !a.blockedBeyond(n) })
	return counters[max(i, 0)]
}
