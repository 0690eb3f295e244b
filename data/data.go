// Package data copies and compares the types of api that contain lists. Results of all layers are copies, so that they share no memory with arguments.
package data

import "trustquorum/api"

// List copies a list, element by element, or makes another one of it.
func List[T, U any](l []T, one func(T) U) []U {
	if len(l) == 0 {
		return nil
	}
	c := make([]U, len(l))
	for i, x := range l {
		c[i] = one(x)
	}
	return c
}

// Flat copies a list whose elements contain no lists.
func Flat[T any](l []T) []T { return append([]T(nil), l...) }

// Trust copies a trust.
func Trust(t api.Trust) api.Trust {
	return api.Trust{Threshold: t.Threshold, Nodes: Flat(t.Nodes), Inner: List(t.Inner, Trust)}
}

// Member copies a member.
func Member(m api.Member) api.Member {
	return api.Member{Declared: m.Declared, Trust: Trust(m.Trust)}
}

// Config copies a configuration.
func Config(c api.Config) api.Config { return api.Config{Members: List(c.Members, Member)} }

// Declaration copies a declaration.
func Declaration(d api.Declaration) api.Declaration {
	d.Trust = Trust(d.Trust)
	return d
}

// Registry copies a registry.
func Registry(r api.Registry) api.Registry {
	return api.Registry{Entries: List(r.Entries, func(l []api.Declaration) []api.Declaration { return List(l, Declaration) })}
}

// Message copies a message.
func Message(m api.Message) api.Message {
	m.Trust, m.Votes, m.Accepts = Trust(m.Trust), Flat(m.Votes), Flat(m.Accepts)
	return m
}

// Voter copies a voter.
func Voter(v api.Voter) api.Voter {
	v.Trust, v.Votes, v.Accepts, v.Confirms = Trust(v.Trust), Flat(v.Votes), Flat(v.Accepts), Flat(v.Confirms)
	v.Heard = List(v.Heard, Message)
	return v
}

// Meeting copies a meeting.
func Meeting(m api.Meeting) api.Meeting {
	m.Voters = List(m.Voters, Voter)
	return m
}

// Nomination copies a nomination.
func Nomination(m api.Nomination) api.Nomination {
	m.Trust, m.Votes, m.Accepts = Trust(m.Trust), Flat(m.Votes), Flat(m.Accepts)
	return m
}

// Nominator copies a nominator.
func Nominator(n api.Nominator) api.Nominator {
	n.Trust, n.Votes, n.Accepts, n.Candidates = Trust(n.Trust), Flat(n.Votes), Flat(n.Accepts), Flat(n.Candidates)
	n.Heard = List(n.Heard, Nomination)
	return n
}

// Envelope copies an envelope.
func Envelope(e api.Envelope) api.Envelope {
	e.Trust = Trust(e.Trust)
	return e
}

// Machine copies a machine.
func Machine(m api.Machine) api.Machine {
	m.Trust, m.Heard = Trust(m.Trust), List(m.Heard, Envelope)
	return m
}

// Slot copies a slot.
func Slot(s api.Slot) api.Slot {
	s.Nominator, s.Machine = Nominator(s.Nominator), Machine(s.Machine)
	return s
}

// Letter copies a letter.
func Letter(l api.Letter) api.Letter {
	l.Nomination, l.Envelope = Nomination(l.Nomination), Envelope(l.Envelope)
	return l
}

// Participant copies a participant.
func Participant(p api.Participant) api.Participant {
	p.Trust, p.Slots = Trust(p.Trust), List(p.Slots, Slot)
	return p
}

// Parcel copies a parcel.
func Parcel(p api.Parcel) api.Parcel {
	p.Letter = Letter(p.Letter)
	return p
}

// Network copies a network.
func Network(n api.Network) api.Network {
	n.Parcels, n.Parts, n.Delays = List(n.Parcels, Parcel), Flat(n.Parts), Flat(n.Delays)
	return n
}

// World copies a world.
func World(w api.World) api.World {
	w.Nodes, w.Net = List(w.Nodes, Participant), Network(w.Net)
	w.Trusts = List(w.Trusts, func(l []api.Trust) []api.Trust { return List(l, Trust) })
	return w
}

// Ledger copies a ledger.
func Ledger(g api.Ledger) api.Ledger {
	g.Accounts, g.Lines, g.Offers = Flat(g.Accounts), Flat(g.Lines), Flat(g.Offers)
	return g
}

// Op copies an operation.
func Op(o api.Op) api.Op {
	o.Path = Flat(o.Path)
	return o
}

// Tx copies a transaction.
func Tx(t api.Tx) api.Tx {
	t.Ops = List(t.Ops, Op)
	return t
}

// Archive copies an archive.
func Archive(a api.Archive) api.Archive {
	return api.Archive{First: Ledger(a.First), Items: Flat(a.Items)}
}
