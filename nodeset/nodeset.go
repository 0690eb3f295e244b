// Package nodeset is layer 1, sets of nodes: see shared/doc/01-nodeset.md.
package nodeset

import (
	"cmp"
	"math/bits"
	"slices"
	"strconv"
	"strings"

	"trustquorum/api"
)

// all is the set of all nodes.
const all = 1<<api.MaxNodes - 1

// Valid reports whether s is a set.
func Valid(s int) bool { return s >= 0 && s <= all }

// isNode reports whether there is such a node.
func isNode(node int) bool { return node >= 0 && node < api.MaxNodes }

// Of returns the set of some nodes.
func Of(nodes []int) (int, api.Errno) {
	s := 0
	for _, node := range nodes {
		if !isNode(node) {
			return 0, api.ErrNode
		}
		if Has(s, node) {
			return 0, api.ErrDuplicate
		}
		s |= 1 << node
	}
	return s, api.OK
}

// Nodes returns the nodes of a set, ascending.
func Nodes(s int) []int {
	var nodes []int
	for node := range api.MaxNodes {
		if Has(s, node) {
			nodes = append(nodes, node)
		}
	}
	return nodes
}

// Has reports whether a node is in a set.
func Has(s, node int) bool { return Valid(s) && isNode(node) && s>>node&1 == 1 }

// Size returns the number of nodes of a set.
func Size(s int) int {
	if !Valid(s) {
		return 0
	}
	return bits.OnesCount(uint(s))
}

// Compare compares in the order of sets.
func Compare(a, b int) int {
	switch {
	case Valid(a) != Valid(b):
		if Valid(b) {
			return -1
		}
		return 1
	case !Valid(a):
		return cmp.Compare(a, b)
	}
	return cmp.Or(cmp.Compare(Size(a), Size(b)), cmp.Compare(a, b))
}

// Next returns the set of nodes below n that comes behind s.
func Next(s, n int) (int, bool) {
	if n < 0 || n > api.MaxNodes || s < 0 || s >= 1<<n {
		return 0, false
	}
	next := nextOfSize(s)
	if s == 0 || next >= 1<<n {
		next = 1<<(Size(s)+1) - 1
	}
	if next >= 1<<n {
		return 0, false
	}
	return next, true
}

// nextOfSize returns the next greater number with as many bits: the lowest run of ones moves its top one up, and the others of it down to the right end.
func nextOfSize(s int) int {
	if s == 0 {
		return 0
	}
	low := s & -s
	up := s + low
	return up | (s^up)/low>>2
}

// find returns the sets of nodes below n for which ok holds, in the order of sets.
func find(n int, ok func(s int) bool) []int {
	var l []int
	for s := range 1 << n {
		if ok(s) {
			l = append(l, s)
		}
	}
	slices.SortFunc(l, Compare)
	return l
}

// Subsets returns all subsets of a set, in the order of sets.
func Subsets(s int) []int {
	if !Valid(s) {
		return nil
	}
	return find(bits.Len(uint(s)), func(t int) bool { return t&^s == 0 })
}

// Least returns the sets of a list of which no other one is a proper subset.
func Least(l []int) []int {
	there := [all + 1]bool{}
	for _, s := range l {
		if Valid(s) {
			there[s] = true
		}
	}
	var least []int
	for _, s := range find(api.MaxNodes, func(s int) bool { return there[s] }) {
		if !slices.ContainsFunc(least, func(t int) bool { return t&^s == 0 }) {
			least = append(least, s)
		}
	}
	return least
}

// Meeting returns the least sets of nodes below n that meet every set of a list.
func Meeting(l []int, n int) ([]int, api.Errno) {
	if n < 0 || n > api.MaxNodes {
		return nil, api.ErrInvalid
	}
	if slices.ContainsFunc(l, func(s int) bool { return s < 0 || s >= 1<<n }) {
		return nil, api.ErrInvalid
	}
	if len(l) > api.MaxSets {
		return nil, api.ErrLimit
	}
	meeting := find(n, func(s int) bool {
		return !slices.ContainsFunc(l, func(t int) bool { return s&t == 0 })
	})
	return Least(meeting), api.OK
}

// Text returns the text of a set.
func Text(s int) string {
	if !Valid(s) {
		return "?"
	}
	var words []string
	for _, node := range Nodes(s) {
		words = append(words, strconv.Itoa(node))
	}
	return "{" + strings.Join(words, " ") + "}"
}

// Parse returns the set with a text.
func Parse(text string) (int, api.Errno) {
	s := 0
	for _, b := range []byte(text) {
		if b >= '0' && b <= '9' {
			s |= 1 << (b - '0')
		}
	}
	if Text(s) != text {
		return 0, api.ErrSyntax
	}
	return s, api.OK
}
