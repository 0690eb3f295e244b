package data

import (
	"slices"

	"trustquorum/api"
)

// SameTrust reports whether two trusts are equal, with all entries in their order.
func SameTrust(a, b api.Trust) bool {
	return a.Threshold == b.Threshold && slices.Equal(a.Nodes, b.Nodes) && slices.EqualFunc(a.Inner, b.Inner, SameTrust)
}

// SameMessage reports whether two messages are equal.
func SameMessage(a, b api.Message) bool {
	return a.Node == b.Node && a.Seq == b.Seq && SameTrust(a.Trust, b.Trust) && slices.Equal(a.Votes, b.Votes) && slices.Equal(a.Accepts, b.Accepts)
}

// SameNomination reports whether two nominations are equal.
func SameNomination(a, b api.Nomination) bool {
	return a.Node == b.Node && a.Seq == b.Seq && SameTrust(a.Trust, b.Trust) && slices.Equal(a.Votes, b.Votes) && slices.Equal(a.Accepts, b.Accepts)
}

// SameEnvelope reports whether two envelopes are equal.
func SameEnvelope(a, b api.Envelope) bool {
	return a.Node == b.Node && a.Slot == b.Slot && a.Seq == b.Seq && a.Kind == b.Kind && a.Ballot == b.Ballot && a.Prepared == b.Prepared &&
		a.Prime == b.Prime && a.Low == b.Low && a.High == b.High && SameTrust(a.Trust, b.Trust)
}

// SameLetter reports whether two letters are equal.
func SameLetter(a, b api.Letter) bool {
	return a.Kind == b.Kind && a.Slot == b.Slot && SameNomination(a.Nomination, b.Nomination) && SameEnvelope(a.Envelope, b.Envelope)
}

// SameStep reports whether two steps are equal.
func SameStep(a, b api.Step) bool {
	return a.Kind == b.Kind && a.Node == b.Node && a.To == b.To && a.Slot == b.Slot && a.Count == b.Count && a.Value == b.Value &&
		SameTrust(a.Trust, b.Trust) && SameLetter(a.Letter, b.Letter) && slices.Equal(a.Parts, b.Parts)
}

// SameOp reports whether two operations are equal.
func SameOp(a, b api.Op) bool {
	return a.Kind == b.Kind && a.To == b.To && a.Amount == b.Amount && a.Limit == b.Limit && a.Asset == b.Asset && a.Other == b.Other &&
		a.Num == b.Num && a.Den == b.Den && a.ID == b.ID && slices.Equal(a.Path, b.Path)
}
