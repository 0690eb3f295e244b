// Package data copies and compares the types of api that contain lists. Results of all layers are copies, so that they share no memory with arguments.
package data

import (
	"slices"

	"trustquorum/api"
)

// List copies a list, element by element.
func List[T any](l []T, one func(T) T) []T {
	if len(l) == 0 {
		return nil
	}
	c := make([]T, len(l))
	for i, x := range l {
		c[i] = one(x)
	}
	return c
}

// Flat copies a list whose elements contain no lists.
func Flat[T any](l []T) []T { return append([]T(nil), l...) }

// Trust copies a trust.
func Trust(t api.Trust) api.Trust {
	return api.Trust{Threshold: t.Threshold, Nodes: Flat(t.Nodes), Inner: List(t.Inner, Trust)}
}

// SameTrust reports whether two trusts are equal, with all entries in their order.
func SameTrust(a, b api.Trust) bool {
	return a.Threshold == b.Threshold && slices.Equal(a.Nodes, b.Nodes) && slices.EqualFunc(a.Inner, b.Inner, SameTrust)
}

// Member copies a member.
func Member(m api.Member) api.Member {
	return api.Member{Declared: m.Declared, Trust: Trust(m.Trust)}
}

// Config copies a configuration.
func Config(c api.Config) api.Config { return api.Config{Members: List(c.Members, Member)} }
