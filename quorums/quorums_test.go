package quorums_test

import (
	"fmt"
	"math/rand"
	"testing"

	"trustquorum/api"
	"trustquorum/closure"
	"trustquorum/configuration"
	"trustquorum/nodeset"
	"trustquorum/quorums"
)

func same[T comparable](t *testing.T, name string, got, want T) {
	t.Helper()
	if got != want {
		t.Errorf("%s: got %v, want %v", name, got, want)
	}
}

func parse(t *testing.T, text string) api.Config {
	t.Helper()
	c, _, e := configuration.Parse(text)
	same(t, text, e, api.OK)
	return c
}

// P10.1 and P10.2
func TestQuorums(t *testing.T) {
	for _, c := range []struct {
		text        string
		minimal     []int
		count, core int
		parts       []int
		symmetric   bool
	}{
		{"", nil, 0, 0, nil, true},
		{"0: -", nil, 0, 0, nil, true},
		{"0: 1 of (0)", []int{1}, 1, 1, []int{1}, true},
		{"0: 2 of (0, 1, 2)\n1: 2 of (0, 1, 2)\n2: 2 of (0, 1, 2)", []int{3, 5, 6}, 4, 7, []int{7}, true},
		{"0: 3 of (0, 1, 2, 3)\n1: 3 of (0, 1, 2, 3)\n2: 3 of (0, 1, 2, 3)\n3: 3 of (0, 1, 2, 3)", []int{7, 11, 13, 14}, 5, 15, []int{15}, true},
		{"0: 1 of (1)\n1: 1 of (1)\n2: 1 of (0)", []int{2}, 3, 2, []int{1, 2, 4}, false},
		{"0: 1 of (1)\n1: 1 of (0)\n2: 1 of (3)\n3: 1 of (2)", []int{3, 12}, 3, 15, []int{3, 12}, false},
		{"0: 1 of (2)\n1: 1 of (3)\n2: 1 of (0)\n3: 1 of (1)", []int{5, 10}, 3, 15, []int{5, 10}, false},
		{"0: 1 of (1)\n1: 1 of (2)\n2: 1 of (3)\n3: 1 of (0, 4)\n4: 1 of (4)", []int{16, 15}, 6, 31, []int{15, 16}, false},
		{"0: 1 of (1)\n1: -\n2: 1 of (1)", nil, 0, 0, []int{1, 4}, true},
		{"0: 1 of (2, 1)\n1: -\n2: 1 of (1)", nil, 0, 0, []int{1, 4}, false},
		{"0: 1 of (1)\n1: -\n2: 2 of (1, 0)", nil, 0, 0, []int{1, 4}, false},
		{"0: 1 of (3)\n1: 1 of (3, 0)\n2: 1 of (1)\n3: 1 of (2)", []int{14}, 2, 14, []int{15}, false},
		{"0: 2 of (0, 1)\n1: 1 of (2 of (1, 0))", []int{3}, 1, 3, []int{3}, true},
		{"0: 1 of (0, 2 of (0, 1))\n1: 1 of (0)", []int{1}, 2, 1, []int{3}, true},
	} {
		x := parse(t, c.text)
		minimal, e := quorums.Minimal(x)
		same(t, "Minimal "+c.text, fmt.Sprint(minimal, e), fmt.Sprint(c.minimal, 0))
		count, e := quorums.Count(x)
		same(t, "Count "+c.text, fmt.Sprint(count, e), fmt.Sprint(c.count, 0))
		core, e := quorums.Core(x)
		same(t, "Core "+c.text, fmt.Sprint(core, e), fmt.Sprint(c.core, 0))
		parts, e := quorums.Parts(x)
		same(t, "Parts "+c.text, fmt.Sprint(parts, e), fmt.Sprint(c.parts, 0))
		symmetric, e := quorums.Symmetric(x)
		same(t, "Symmetric "+c.text, fmt.Sprint(symmetric, e), fmt.Sprint(c.symmetric, 0))
	}
}

// Error of all functions.
func TestErrors(t *testing.T) {
	trust := func(k int, nodes ...int) api.Member {
		return api.Member{Declared: true, Trust: api.Trust{Threshold: k, Nodes: nodes}}
	}
	for _, c := range []api.Config{
		{Members: make([]api.Member, 11)},
		{Members: []api.Member{trust(0)}},
		{Members: []api.Member{trust(1, 1)}},
		{Members: []api.Member{trust(1, 0, 0)}},
		{Members: []api.Member{{Trust: api.Trust{Threshold: 1}}}},
	} {
		want := configuration.Valid(c)
		same(t, "not valid", want != api.OK, true)
		minimal, e := quorums.Minimal(c)
		same(t, "Minimal", fmt.Sprint(minimal, e), fmt.Sprint([]int{}, want))
		count, e := quorums.Count(c)
		same(t, "Count", fmt.Sprint(count, e), fmt.Sprint(0, want))
		core, e := quorums.Core(c)
		same(t, "Core", fmt.Sprint(core, e), fmt.Sprint(0, want))
		parts, e := quorums.Parts(c)
		same(t, "Parts", fmt.Sprint(parts, e), fmt.Sprint([]int{}, want))
		symmetric, e := quorums.Symmetric(c)
		same(t, "Symmetric", fmt.Sprint(symmetric, e), fmt.Sprint(false, want))
	}
}

// The consequences of the chapter.
func TestConsequences(t *testing.T) {
	r := rand.New(rand.NewSource(10))
	for range 100 {
		var c api.Config
		for range 6 {
			x := api.Trust{Nodes: r.Perm(6)[:1+r.Intn(4)]}
			x.Threshold = 1 + r.Intn(len(x.Nodes))
			c.Members = append(c.Members, api.Member{Declared: true, Trust: x})
		}
		minimal, _ := quorums.Minimal(c)
		parts, _ := quorums.Parts(c)
		together := 0
		for i, p := range parts {
			same(t, "disjoint", together&p, 0)
			together |= p
			if i > 0 {
				same(t, "order", nodeset.Nodes(parts[i-1])[0] < nodeset.Nodes(p)[0], true)
			}
		}
		same(t, "all", together, 63)
		for i, q := range minimal {
			same(t, "quorum", closure.Quorum(c, q), true)
			inside := false
			for _, p := range parts {
				inside = inside || q&^p == 0
			}
			same(t, "in one part", inside, true)
			for k, other := range minimal {
				same(t, "no subset", i != k && q&^other == 0, false)
			}
		}
		count := 0
		for s := range 64 {
			if closure.Quorum(c, s) {
				count++
				found := false
				for _, q := range minimal {
					found = found || q&^s == 0
				}
				same(t, "has a minimal one", found, true)
			}
		}
		n, _ := quorums.Count(c)
		same(t, "Count", n, count)
	}
}
