package closure_test

import (
	"fmt"
	"math"
	"math/rand"
	"slices"
	"testing"

	"trustquorum/api"
	"trustquorum/closure"
	"trustquorum/configuration"
)

func same[T comparable](t *testing.T, name string, got, want T) {
	t.Helper()
	if got != want {
		t.Errorf("%s: got %v, want %v", name, got, want)
	}
}

func parse(t *testing.T, text string) api.Config {
	t.Helper()
	c, _, e := configuration.Parse(text)
	same(t, text, e, api.OK)
	return c
}

const (
	three = "0: 2 of (0, 1, 2)\n1: 2 of (0, 1, 2)\n2: 2 of (0, 1, 2)\n"
	chain = "0: 1 of (1)\n1: 1 of (2)\n2: 1 of (3)\n3: 1 of (4)\n4: -\n5: 1 of (5)\n"
)

var noSets = []int{-1, 1024, math.MinInt, math.MaxInt}

// P9.1
func TestQuorum(t *testing.T) {
	for text, want := range map[string][]int{
		three:                               {3, 5, 6, 7},
		chain:                               {32},
		"0: 1 of (0)\n1: 1 of (0)":          {1, 3},
		"0: 2 of (0, 1)\n1: 1 of (1)\n2: -": {2, 3},
		"0: -\n1: 1 of (0)":                 nil,
		"":                                  nil,
	} {
		c := parse(t, text)
		var got []int
		for s := range 1024 {
			if closure.Quorum(c, s) {
				got = append(got, s)
			}
		}
		same(t, text, fmt.Sprint(got), fmt.Sprint(want))
		for _, s := range noSets {
			same(t, "no set", closure.Quorum(c, s), false)
			same(t, "no set", closure.Greatest(c, s), 0)
			same(t, "no set", len(closure.Elimination(c, s)), 0)
		}
	}
}

// Configurations that are not valid.
func TestAnyConfiguration(t *testing.T) {
	own := api.Member{Declared: true, Trust: api.Trust{Threshold: 0}}
	c := api.Config{Members: slices.Repeat([]api.Member{own}, 70)}
	same(t, "behind the first ten", closure.Greatest(c, 1023), 1023)
	same(t, "behind the first ten", closure.Quorum(c, 1023), true)
	hidden := api.Config{Members: []api.Member{{Trust: api.Trust{Threshold: 0}}, own}}
	same(t, "undeclared", closure.Quorum(hidden, 1), false)
	same(t, "undeclared", closure.Greatest(hidden, 1023), 2)
	same(t, "never", closure.Greatest(api.Config{Members: []api.Member{{Declared: true, Trust: api.Trust{Threshold: 1}}}}, 1), 0)
}

// P9.1 and P9.2
func TestElimination(t *testing.T) {
	for _, c := range []struct {
		text     string
		s        int
		gone     []int
		greatest int
	}{
		{three, 1, []int{0}, 0},
		{three, 3, nil, 3},
		{three, 1023, nil, 7},
		{three, 0, nil, 0},
		{chain, 1023, []int{3, 2, 1, 0}, 32},
		{chain, 15, []int{3, 2, 1, 0}, 0},
		{chain, 16, nil, 0},
		{chain, 13, []int{0, 3, 2}, 0},
		{"0: 1 of (0)\n1: 2 of (0, 2)\n2: 2 of (1, 3)\n3: -", 15, []int{2, 1}, 1},
		{"0: 1 of (3)\n1: 1 of (3)\n2: 1 of (1)\n3: -", 7, []int{0, 1, 2}, 0},
	} {
		x := parse(t, c.text)
		same(t, c.text, fmt.Sprint(closure.Elimination(x, c.s)), fmt.Sprint(c.gone))
		same(t, c.text, closure.Greatest(x, c.s), c.greatest)
		got, e := closure.Check(x, c.s, c.gone)
		same(t, c.text, got, c.greatest)
		same(t, c.text, e, api.OK)
	}
}

// P9.3
func TestCheck(t *testing.T) {
	for _, c := range []struct {
		text string
		s    int
		l    []int
		rest int
		e    api.Errno
	}{
		{three, 7, nil, 7, api.OK},
		{three, 1, []int{0}, 0, api.OK},
		{"0: 1 of (3)\n1: 1 of (3)\n2: 1 of (1)\n3: -", 7, []int{1, 2, 0}, 0, api.OK},
		{"0: 1 of (3)\n1: 1 of (3)\n2: 1 of (1)\n3: -", 7, []int{2, 1, 0}, 0, api.ErrProof},
		{three, 1, nil, 0, api.ErrProof},
		{three, 3, []int{0}, 0, api.ErrProof},
		{three, 3, []int{2}, 0, api.ErrProof},
		{three, 1, []int{0, 0}, 0, api.ErrProof},
		{three, 1, []int{0, 1}, 0, api.ErrProof},
		{three, 1, []int{-1}, 0, api.ErrProof},
		{three, 1, []int{10}, 0, api.ErrProof},
		{three, 9, []int{3}, 0, api.ErrProof},
		{chain, 12, []int{3}, 0, api.ErrProof},
		{chain, 24, []int{3}, 0, api.OK},
		{chain, 16, []int{4}, 0, api.ErrProof},
		{three, -1, nil, 0, api.ErrInvalid},
		{three, 1024, []int{99}, 0, api.ErrInvalid},
	} {
		rest, e := closure.Check(parse(t, c.text), c.s, c.l)
		same(t, fmt.Sprint(c.text, c.s, c.l), rest, c.rest)
		same(t, fmt.Sprint(c.text, c.s, c.l), e, c.e)
	}
}

// random makes a configuration of n members.
func random(r *rand.Rand, n int) api.Config {
	var c api.Config
	for range n {
		x := api.Trust{Nodes: r.Perm(n)[:1+r.Intn(n)]}
		x.Threshold = 1 + r.Intn(len(x.Nodes))
		c.Members = append(c.Members, api.Member{Declared: true, Trust: x})
	}
	if r.Intn(2) == 0 {
		c.Members[r.Intn(n)] = api.Member{}
	}
	return c
}

// The consequences of the chapter.
func TestConsequences(t *testing.T) {
	r := rand.New(rand.NewSource(9))
	for range 60 {
		c := random(r, 5)
		for s := range 32 {
			union := 0
			for q := range 32 {
				if q&^s == 0 && closure.Quorum(c, q) {
					union |= q
				}
			}
			g := closure.Greatest(c, s)
			same(t, "Greatest", g, union)
			same(t, "Greatest", g == 0 || closure.Quorum(c, g), true)
			same(t, "twice", closure.Greatest(c, g), g)
			more := closure.Greatest(c, s|1<<r.Intn(5))
			same(t, "grows", g&^more, 0)
			rest, e := closure.Check(c, s, closure.Elimination(c, s))
			same(t, "Check", e, api.OK)
			same(t, "Check", rest, g)
		}
	}
}
