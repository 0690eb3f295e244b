package monitor

import (
	"slices"

	"trustquorum/api"
	"trustquorum/closure"
	"trustquorum/data"
	"trustquorum/envelopes"
	"trustquorum/nodeset"
	"trustquorum/prepare"
	"trustquorum/threshold"
)

// latest returns the newest envelopes of all nodes for a slot, ascending by node.
func (f files) latest(slot int) []api.Envelope {
	var l []api.Envelope
	for node := range api.MaxNodes {
		if of := f[place{node, slot}]; len(of) > 0 {
			l = append(l, newest(of))
		}
	}
	return l
}

// stuck returns what a node needs to go on in a slot.
func (f files) stuck(at place) (api.Finding, bool) {
	of := f[at]
	if len(of) == 0 {
		return api.Finding{}, false
	}
	own := newest(of)
	if own.Kind != api.KindPrepare || envelopes.AcceptsPrepare(own, own.Ballot) {
		return api.Finding{}, false
	}
	return api.Finding{Node: at.node, Slot: at.slot, Kind: api.FindingStuck, Value: own.Ballot.Value, Needs: needs(own, f.latest(at.slot))}, true
}

// needs returns the least sets of nodes that have to vote, beside those that do, so that a node may accept its ballot.
func needs(own api.Envelope, l []api.Envelope) []int {
	voting := envelopes.Set(l, data.List(l, func(e api.Envelope) bool {
		return envelopes.VotesPrepare(e, own.Ballot) || envelopes.AcceptsPrepare(e, own.Ballot)
	}))
	seen := envelopes.Set(l, slices.Repeat([]bool{true}, len(l)))
	others := (seen | threshold.Uses(own.Trust)) &^ voting &^ (1 << own.Node)
	view := prepare.View(own.Node, own.Trust, l)
	var sets []int
	for _, s := range nodeset.Subsets(others) {
		if nodeset.Has(closure.Greatest(view, s|voting), own.Node) {
			sets = append(sets, s)
		}
	}
	least := nodeset.Least(sets)
	slices.Sort(least)
	return least
}
