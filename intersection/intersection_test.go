package intersection_test

import (
	"fmt"
	"math/rand"
	"testing"

	"trustquorum/api"
	"trustquorum/closure"
	"trustquorum/configuration"
	"trustquorum/intersection"
	"trustquorum/nodeset"
)

func same[T comparable](t *testing.T, name string, got, want T) {
	t.Helper()
	if got != want {
		t.Errorf("%s: got %v, want %v", name, got, want)
	}
}

func parse(t *testing.T, text string) api.Config {
	t.Helper()
	c, _, e := configuration.Parse(text)
	same(t, text, e, api.OK)
	return c
}

const three = "0: 2 of (0, 1, 2)\n1: 2 of (0, 1, 2)\n2: 2 of (0, 1, 2)\n"

// uniform is a configuration of n members with the threshold k.
func uniform(n, k int) api.Config {
	var c api.Config
	for range n {
		c.Members = append(c.Members, api.Member{Declared: true, Trust: api.Trust{Threshold: k, Nodes: nodeset.Nodes(1<<n - 1)}})
	}
	return c
}

// P12.1
func TestHolds(t *testing.T) {
	for _, c := range []struct {
		c    api.Config
		a, b int
	}{
		{parse(t, three), 0, 0},
		{parse(t, ""), 0, 0},
		{parse(t, "0: -"), 0, 0},
		{parse(t, "0: 1 of (0)\n1: -"), 0, 0},
		{uniform(3, 1), 1, 6},
		{uniform(4, 2), 3, 12},
		{uniform(4, 3), 0, 0},
		{uniform(10, 5), 31, 992},
		{uniform(10, 6), 0, 0},
		{uniform(10, 1), 1, 1022},
		{parse(t, "0: 1 of (1)\n1: 1 of (0)\n2: 1 of (2)\n3: 1 of (2)"), 4, 3},
		{parse(t, "0: 1 of (1)\n1: 1 of (0)\n2: 1 of (2)\n3: 1 of (3)\n4: 1 of (0)"), 4, 27},
		{parse(t, "0: 1 of (0)\n1: 2 of (1, 2)\n2: 2 of (0, 2)"), 0, 0},
	} {
		holds, e := intersection.Holds(c.c)
		same(t, fmt.Sprint(c.c), e, api.OK)
		same(t, fmt.Sprint(c.c), holds, c.a == 0)
		a, b, e := intersection.Disjoint(c.c)
		want := api.OK
		if holds {
			want = api.ErrNone
		}
		same(t, fmt.Sprint(c.c), fmt.Sprint(a, b, e), fmt.Sprint(c.a, c.b, want))
		x, e := intersection.Prove(c.c)
		same(t, "Prove", intersection.Check(c.c, x), holds)
		if holds {
			same(t, "Prove", e, api.OK)
		} else {
			same(t, "Prove", fmt.Sprint(x, e), fmt.Sprint(api.Trace{}, api.ErrNone))
		}
	}
}

// Errors of all functions.
func TestErrors(t *testing.T) {
	for _, c := range []api.Config{{Members: make([]api.Member, 11)}, {Members: []api.Member{{Declared: true}}}, {Members: []api.Member{{Trust: api.Trust{Threshold: 1}}}}} {
		want := configuration.Valid(c)
		holds, e := intersection.Holds(c)
		same(t, "Holds", fmt.Sprint(holds, e), fmt.Sprint(false, want))
		a, b, e := intersection.Disjoint(c)
		same(t, "Disjoint", fmt.Sprint(a, b, e), fmt.Sprint(0, 0, want))
		x, e := intersection.Prove(c)
		same(t, "Prove", fmt.Sprint(x, e), fmt.Sprint(api.Trace{}, want))
		same(t, "Check", intersection.Check(c, api.Trace{Kind: api.TraceNone}), false)
	}
}

func split(node int, without, with api.Trace) api.Trace {
	return api.Trace{Kind: api.TraceSplit, Node: node, Kids: []api.Trace{without, with}}
}

// P12.2
func TestCheck(t *testing.T) {
	c := parse(t, three)
	none, alone := api.Trace{Kind: api.TraceNone}, api.Trace{Kind: api.TraceAlone}
	tree := split(0, split(1, none, split(2, none, alone)), split(1, split(2, none, alone), alone))
	same(t, "right", intersection.Check(c, tree), true)
	same(t, "Size", intersection.Size(tree), 11)
	same(t, "other order", intersection.Check(c, split(2, split(0, none, split(1, none, alone)), split(0, split(1, none, alone), alone))), true)
	for name, x := range map[string]api.Trace{
		"zero":           {},
		"another kind":   {Kind: 4},
		"negative":       {Kind: -1},
		"none":           none,
		"alone":          alone,
		"no kids":        {Kind: api.TraceSplit},
		"one kid":        {Kind: api.TraceSplit, Kids: []api.Trace{none}},
		"three kids":     {Kind: api.TraceSplit, Kids: []api.Trace{tree.Kids[0], tree.Kids[1], none}},
		"kids turned":    split(0, tree.Kids[1], tree.Kids[0]),
		"no member":      split(3, tree, tree),
		"no node":        split(10, tree, tree),
		"negative node":  split(-1, tree, tree),
		"twice":          split(0, split(0, none, alone), tree.Kids[1]),
		"required twice": split(0, tree.Kids[0], split(0, alone, alone)),
		"none, Node":     split(0, split(1, api.Trace{Kind: api.TraceNone, Node: 1}, tree.Kids[0].Kids[1]), tree.Kids[1]),
		"alone, Node":    split(0, tree.Kids[0], split(1, split(2, none, alone), api.Trace{Kind: api.TraceAlone, Node: 1})),
		"none, Kids":     split(0, split(1, api.Trace{Kind: api.TraceNone, Kids: []api.Trace{none}}, tree.Kids[0].Kids[1]), tree.Kids[1]),
		"alone, Kids":    split(0, tree.Kids[0], split(1, split(2, none, alone), api.Trace{Kind: api.TraceAlone, Kids: []api.Trace{none}})),
		"wrong leaf":     split(0, split(1, alone, tree.Kids[0].Kids[1]), tree.Kids[1]),
		"a wrong leaf":   split(0, tree.Kids[0], split(1, split(2, none, alone), none)),
	} {
		same(t, name, intersection.Check(c, x), false)
	}
	same(t, "no quorum", intersection.Check(parse(t, "0: -"), none), true)
	same(t, "no quorum", intersection.Check(parse(t, "0: -"), alone), true)
	same(t, "no members", intersection.Check(parse(t, ""), none), true)
	deep := none
	for range 60000 {
		deep = api.Trace{Kind: api.TraceSplit, Kids: []api.Trace{none, deep}}
	}
	same(t, "deep", intersection.Check(c, deep), false)
	same(t, "deep", intersection.Size(deep), 120001)
	same(t, "one", intersection.Size(api.Trace{}), 1)
}

// The consequences of the chapter, and every quorum against every other one.
func TestRandom(t *testing.T) {
	r := rand.New(rand.NewSource(12))
	split := 0
	for range 300 {
		n := 1 + r.Intn(6)
		var c api.Config
		for range n {
			x := api.Trust{Nodes: r.Perm(n)[:1+r.Intn(n)]}
			x.Threshold = 1 + r.Intn(len(x.Nodes))
			if r.Intn(3) == 0 {
				x.Inner = []api.Trust{{Threshold: 1, Nodes: r.Perm(n)[:1+r.Intn(n)]}}
			}
			c.Members = append(c.Members, api.Member{Declared: true, Trust: x})
		}
		want := true
		for a := range 1 << n {
			for b := range 1 << n {
				want = want && (a&b != 0 || !closure.Quorum(c, a) || !closure.Quorum(c, b))
			}
		}
		holds, _ := intersection.Holds(c)
		same(t, "Holds", holds, want)
		if !holds {
			split++
			a, b, _ := intersection.Disjoint(c)
			same(t, "Disjoint", closure.Quorum(c, a) && closure.Quorum(c, b) && a&b == 0, true)
			continue
		}
		x, _ := intersection.Prove(c)
		same(t, "Prove", intersection.Check(c, x), true)
	}
	same(t, "both", split > 20 && split < 280, true)
	x, _ := intersection.Prove(uniform(10, 6))
	same(t, "the greatest one", intersection.Check(uniform(10, 6), x), true)
	same(t, "another one", intersection.Check(uniform(10, 5), x), false)
}
