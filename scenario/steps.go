package scenario

import (
	"cmp"
	"slices"

	"trustquorum/api"
	"trustquorum/data"
	"trustquorum/network"
	"trustquorum/participant"
	"trustquorum/threshold"
)

// run is a world that goes on.
type run struct{ api.World }

// times does something so many times.
func (r *run) times(n int, what func(*run)) {
	for range n {
		what(r)
	}
}

// ill reports whether a node is ill-behaved.
func (r *run) ill(k int) bool { return r.Ill>>k&1 == 1 }

// isThere reports whether there is a participant.
func (r *run) isThere(k int) bool { return k >= 0 && k < len(r.Nodes) }

// well does something with each participant that is not ill-behaved, ascending.
func (r *run) well(what func(k int)) {
	for k := range r.Nodes {
		if !r.ill(k) {
			what(k)
		}
	}
}

// change changes a participant, if the change has no error.
func (r *run) change(k int, f func(api.Participant) (api.Participant, api.Errno)) api.Errno {
	p, e := f(r.Nodes[k])
	if e == api.OK {
		r.Nodes[k] = p
	}
	return e
}

// tick lets a tick pass.
func (r *run) tick() {
	r.Time++
	arrive, net := network.Due(r.Net, r.Time)
	r.Net = net
	for _, parcel := range arrive {
		if r.isThere(parcel.To) && !r.ill(parcel.To) {
			r.change(parcel.To, func(p api.Participant) (api.Participant, api.Errno) {
				return participant.Hear(p, parcel.Letter, r.Time)
			})
		}
	}
	r.well(func(k int) {
		r.change(k, func(p api.Participant) (api.Participant, api.Errno) { return participant.Tick(p, r.Time) })
	})
	r.well(r.sendAll)
	slices.SortFunc(r.Net.Parcels, func(a, b api.Parcel) int {
		return cmp.Or(cmp.Compare(a.Due, b.Due), cmp.Compare(a.From, b.From), cmp.Compare(a.To, b.To), cmp.Compare(a.Number, b.Number))
	})
}

// sendAll sends the letters of a participant to all others.
func (r *run) sendAll(from int) {
	for _, l := range participant.Letters(r.Nodes[from]) {
		for to := range r.Nodes {
			if to != from {
				r.post(from, to, l)
			}
		}
	}
}

// post sends a letter by a network that is empty, and so need not be copied as a whole for each of the many letters of a tick. The parcels are in disorder until the end of the tick.
func (r *run) post(from, to int, l api.Letter) {
	if len(r.Net.Parcels) >= api.MaxParcels {
		return
	}
	empty := api.Network{Next: r.Net.Next, Delays: r.Net.Delays}
	if sent, e := network.Send(empty, from, to, l, r.Time); e == api.OK {
		r.Net.Parcels = append(r.Net.Parcels, sent.Parcels...)
		r.Net.Next = sent.Next
	}
}

// send sends a letter, if there is room for it.
func (r *run) send(from, to int, l api.Letter) api.Errno {
	net, e := network.Send(r.Net, from, to, l, r.Time)
	if e == api.OK {
		r.Net = net
	}
	return e
}

// Do carries out a step.
func Do(w api.World, s api.Step) (api.World, api.Errno) {
	if !Check(w) {
		return api.World{}, api.ErrState
	}
	if s.Kind == api.StepTick {
		if s.Count < 1 || s.Count > api.MaxTicks {
			return api.World{}, api.ErrScript
		}
		return later(w, s.Count)
	}
	r := &run{data.World(w)}
	if e := r.do(s); e != api.OK {
		return api.World{}, e
	}
	return r.World, api.OK
}

// do carries out a step in which no time passes.
func (r *run) do(s api.Step) api.Errno {
	var e api.Errno
	switch s.Kind {
	case api.StepPart:
		net, e := network.Part(r.Net, s.Parts)
		r.Net = net
		return e
	case api.StepPropose, api.StepPrefer, api.StepStop, api.StepDeclare, api.StepShow, api.StepDelay:
		if !r.isThere(s.Node) {
			return api.ErrNode
		}
	default:
		return api.ErrScript
	}
	switch s.Kind {
	case api.StepShow:
		return r.show(s)
	case api.StepDelay:
		r.Net, e = network.Delay(r.Net, s.Node, s.To, s.Count)
		return e
	}
	if r.ill(s.Node) {
		return api.ErrScript
	}
	switch s.Kind {
	case api.StepPropose:
		return r.change(s.Node, func(p api.Participant) (api.Participant, api.Errno) {
			return participant.Begin(p, s.Slot, s.Value, r.Time)
		})
	case api.StepPrefer:
		return r.change(s.Node, func(p api.Participant) (api.Participant, api.Errno) {
			return participant.Prefer(p, s.Slot, s.Value, r.Time)
		})
	case api.StepDeclare:
		return r.declare(s)
	}
	r.Nodes[s.Node] = participant.Stop(r.Nodes[s.Node])
	return api.OK
}

// declare gives a participant another trust.
func (r *run) declare(s api.Step) api.Errno {
	if r.Nodes[s.Node].Stopped {
		return api.ErrScript
	}
	if threshold.Valid(s.Trust) != api.OK || threshold.Uses(s.Trust)>>len(r.Nodes) != 0 {
		return api.ErrInvalid
	}
	l := r.Trusts[s.Node]
	if !hasTrust(l, s.Trust) {
		if len(l) >= api.MaxTrusts {
			return api.ErrLimit
		}
		r.Trusts[s.Node] = append(l, data.Trust(s.Trust))
	}
	return r.change(s.Node, func(p api.Participant) (api.Participant, api.Errno) { return participant.Declare(p, s.Trust) })
}

// show lets an ill-behaved participant show a letter of its own.
func (r *run) show(s api.Step) api.Errno {
	if !r.ill(s.Node) || !r.isThere(s.To) || s.To == s.Node {
		return api.ErrScript
	}
	author := s.Node
	switch s.Letter.Kind {
	case api.LetterNomination:
		author = s.Letter.Nomination.Node
	case api.LetterEnvelope:
		author = s.Letter.Envelope.Node
	default:
		return api.ErrInvalid
	}
	if author != s.Node {
		return api.ErrForge
	}
	return r.send(s.Node, s.To, s.Letter)
}
