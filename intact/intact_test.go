package intact_test

import (
	"fmt"
	"math"
	"math/rand"
	"slices"
	"testing"

	"trustquorum/api"
	"trustquorum/blocking"
	"trustquorum/closure"
	"trustquorum/configuration"
	"trustquorum/dispensable"
	"trustquorum/intact"
	"trustquorum/nodeset"
)

func same[T comparable](t *testing.T, name string, got, want T) {
	t.Helper()
	if got != want {
		t.Errorf("%s: got %v, want %v", name, got, want)
	}
}

func parse(t *testing.T, text string) api.Config {
	t.Helper()
	c, _, e := configuration.Parse(text)
	same(t, text, e, api.OK)
	return c
}

// uniform is a configuration of n members with the threshold k.
func uniform(n, k int) api.Config {
	var c api.Config
	for range n {
		c.Members = append(c.Members, api.Member{Declared: true, Trust: api.Trust{Threshold: k, Nodes: nodeset.Nodes(1<<n - 1)}})
	}
	return c
}

// leaf has a node 4 that is needed by nobody.
const leaf = "0: 3 of (0, 1, 2, 3)\n1: 3 of (0, 1, 2, 3)\n2: 3 of (0, 1, 2, 3)\n3: 3 of (0, 1, 2, 3)\n4: 3 of (0, 1, 2, 3, 4)\n"

// needy has a node 4 that needs node 0.
const needy = "0: 3 of (0, 1, 2, 3)\n1: 3 of (0, 1, 2, 3)\n2: 3 of (0, 1, 2, 3)\n3: 3 of (0, 1, 2, 3)\n4: 2 of (0, 1)\n5: -\n"

// P15.1
func TestOf(t *testing.T) {
	for _, c := range []struct {
		low, high api.Config
		ill, want int
	}{
		{uniform(4, 3), uniform(4, 3), 0, 15},
		{uniform(4, 3), uniform(4, 3), 1, 14},
		{uniform(4, 3), uniform(4, 3), 8, 7},
		{uniform(4, 3), uniform(4, 3), 3, 0},
		{uniform(4, 3), uniform(4, 3), 15, 0},
		{uniform(4, 2), uniform(4, 2), 0, 0},
		{uniform(4, 3), uniform(4, 4), 0, 15},
		{uniform(4, 3), uniform(4, 4), 1, 0},
		{parse(t, leaf), parse(t, leaf), 0, 31},
		{parse(t, leaf), parse(t, leaf), 1, 30},
		{parse(t, leaf), parse(t, leaf), 16, 15},
		{parse(t, needy), parse(t, needy), 0, 31},
		{parse(t, needy), parse(t, needy), 1, 14},
		{parse(t, needy), parse(t, needy), 4, 27},
		{api.Config{}, api.Config{}, 0, 0},
	} {
		got, e := intact.Of(c.low, c.high, c.ill)
		same(t, fmt.Sprint(configuration.Text(c.high), c.ill), fmt.Sprint(got, e), fmt.Sprint(c.want, 0))
		others, e := intact.Befouled(c.low, c.high, c.ill)
		same(t, fmt.Sprint(configuration.Text(c.high), c.ill), fmt.Sprint(others, e), fmt.Sprint((1<<len(c.low.Members)-1)&^c.want, 0))
	}
}

// Errors of all functions.
func TestErrors(t *testing.T) {
	four := uniform(4, 3)
	for _, c := range []struct {
		low, high api.Config
		ill       int
		e         api.Errno
	}{
		{four, four, 16, api.ErrInvalid},
		{four, four, -1, api.ErrInvalid},
		{four, four, math.MinInt, api.ErrInvalid},
		{four, uniform(4, 2), -1, api.ErrConflict},
		{four, uniform(5, 3), 0, api.ErrInvalid},
		{uniform(8, 5), uniform(8, 5), -1, api.ErrLimit},
		{api.Config{Members: make([]api.Member, 11)}, four, 0, api.ErrLimit},
	} {
		got, e := intact.Of(c.low, c.high, c.ill)
		same(t, "Of", fmt.Sprint(got, e), fmt.Sprint(0, c.e))
		got, e = intact.Befouled(c.low, c.high, c.ill)
		same(t, "Befouled", fmt.Sprint(got, e), fmt.Sprint(0, c.e))
		x, e := intact.Explain(c.low, c.high, c.ill, -1)
		same(t, "Explain", fmt.Sprint(x, e), fmt.Sprint(api.Explanation{}, c.e))
		v, ok, e := intact.Follows(c.low, c.high, c.ill, -1)
		same(t, "Follows", fmt.Sprint(v, ok, e), fmt.Sprint(0, false, c.e))
		same(t, "Check", intact.Check(c.low, c.high, c.ill, 0, api.Explanation{Kind: api.ExplainIll}), false)
	}
	for _, v := range []int{-1, 4, math.MaxInt, math.MinInt} {
		x, e := intact.Explain(four, four, 15, v)
		same(t, "Explain", fmt.Sprint(x, e), fmt.Sprint(api.Explanation{}, api.ErrNode))
		same(t, "Check", intact.Check(four, four, 15, v, api.Explanation{Kind: api.ExplainBefouled}), false)
		same(t, "Check", intact.Check(four, four, 0, v, api.Explanation{Kind: api.ExplainIntact}), false)
	}
	for _, s := range []int{16, 1 << 10, -1, math.MinInt} {
		v, ok, e := intact.Follows(four, four, 0, s)
		same(t, "Follows", fmt.Sprint(v, ok, e), fmt.Sprint(0, false, api.ErrInvalid))
	}
}

// P15.2
func TestExplain(t *testing.T) {
	four, need := uniform(4, 3), parse(t, needy)
	for _, c := range []struct {
		c      api.Config
		ill, v int
		want   api.Explanation
	}{
		{four, 1, 2, api.Explanation{Kind: api.ExplainIntact, Set: 1}},
		{four, 0, 0, api.Explanation{Kind: api.ExplainIntact}},
		{need, 1, 2, api.Explanation{Kind: api.ExplainIntact, Set: 49}},
		{four, 3, 2, api.Explanation{Kind: api.ExplainApart, A: 4, B: 8}},
		{four, 3, 0, api.Explanation{Kind: api.ExplainApart, A: 4, B: 8}},
		{four, 1, 0, api.Explanation{Kind: api.ExplainIll}},
		{four, 15, 0, api.Explanation{Kind: api.ExplainIll}},
		{parse(t, "0: 1 of (0)\n1: 2 of (0, 1)\n2: 1 of (0)"), 1, 1, api.Explanation{Kind: api.ExplainApart, A: 2, B: 4}},
		{parse(t, "0: 2 of (0, 1)\n1: 2 of (0, 1)\n2: 1 of (0)"), 2, 0, api.Explanation{Kind: api.ExplainBefouled, Refutations: []api.Refutation{{Node: 0}, {Node: 0}}}},
		{parse(t, "0: 2 of (0, 1)\n1: 1 of (1)\n2: 1 of (1)"), 2, 0, api.Explanation{Kind: api.ExplainApart, A: 1, B: 4}},
		{parse(t, "0: 2 of (0, 1)\n1: 1 of (1)"), 2, 0, api.Explanation{Kind: api.ExplainBefouled, Refutations: []api.Refutation{{Node: 0}}}},
		{need, 48, 4, api.Explanation{Kind: api.ExplainIll}},
		{need, 49, 5, api.Explanation{Kind: api.ExplainIll}},
	} {
		x, e := intact.Explain(c.c, c.c, c.ill, c.v)
		same(t, fmt.Sprint(configuration.Text(c.c), c.ill, c.v), fmt.Sprint(x, e), fmt.Sprint(c.want, 0))
		same(t, "Check", intact.Check(c.c, c.c, c.ill, c.v, x), true)
	}
	x, _ := intact.Explain(need, need, 1, 4)
	same(t, "befouled", x.Kind, api.ExplainBefouled)
	same(t, "as many as there are sets", len(x.Refutations), 16)
	same(t, "the first one", x.Refutations[0], api.Refutation{Node: 4})
	same(t, "Check", intact.Check(need, need, 1, 4, x), true)
}

// P15.3
func TestCheck(t *testing.T) {
	four, need := uniform(4, 3), parse(t, needy)
	befouled, _ := intact.Explain(need, need, 1, 4)
	less := api.Explanation{Kind: api.ExplainBefouled, Refutations: befouled.Refutations[1:]}
	turned := api.Explanation{Kind: api.ExplainBefouled, Refutations: slices.Clone(befouled.Refutations)}
	turned.Refutations[3] = api.Refutation{Node: 0}
	one := []api.Refutation{{Node: 2}}
	for name, c := range map[string]struct {
		c      api.Config
		ill, v int
		x      api.Explanation
		want   bool
	}{
		"no kind":                  {four, 1, 0, api.Explanation{}, false},
		"another kind":             {four, 1, 0, api.Explanation{Kind: 5}, false},
		"intact":                   {four, 1, 2, api.Explanation{Kind: api.ExplainIntact, Set: 1}, true},
		"a greater set":            {parse(t, leaf), 0, 2, api.Explanation{Kind: api.ExplainIntact, Set: 16}, true},
		"not dispensable":          {four, 1, 2, api.Explanation{Kind: api.ExplainIntact, Set: 3}, false},
		"no set of members":        {four, 1, 2, api.Explanation{Kind: api.ExplainIntact, Set: 16}, false},
		"contains the member":      {four, 1, 0, api.Explanation{Kind: api.ExplainIntact, Set: 1}, false},
		"all":                      {four, 1, 0, api.Explanation{Kind: api.ExplainIntact, Set: 15}, false},
		"without an ill one":       {four, 1, 2, api.Explanation{Kind: api.ExplainIntact, Set: 0}, false},
		"intact with A":            {four, 1, 2, api.Explanation{Kind: api.ExplainIntact, Set: 1, A: 1}, false},
		"intact with B":            {four, 1, 2, api.Explanation{Kind: api.ExplainIntact, Set: 1, B: 1}, false},
		"intact with Refutations":  {four, 1, 2, api.Explanation{Kind: api.ExplainIntact, Set: 1, Refutations: one}, false},
		"no intersection":          {parse(t, "0: 1 of (0)\n1: 1 of (1)\n2: -"), 4, 0, api.Explanation{Kind: api.ExplainIntact, Set: 6}, false},
		"apart":                    {four, 3, 2, api.Explanation{Kind: api.ExplainApart, A: 4, B: 8}, true},
		"apart, turned":            {four, 3, 0, api.Explanation{Kind: api.ExplainApart, A: 8, B: 4}, true},
		"not disjoint":             {four, 3, 0, api.Explanation{Kind: api.ExplainApart, A: 8, B: 12}, false},
		"empty":                    {four, 3, 0, api.Explanation{Kind: api.ExplainApart, A: 8}, false},
		"no quorums":               {four, 1, 0, api.Explanation{Kind: api.ExplainApart, A: 2, B: 4}, false},
		"apart with Set":           {four, 3, 0, api.Explanation{Kind: api.ExplainApart, A: 8, B: 4, Set: 1}, false},
		"apart with Refutations":   {four, 3, 0, api.Explanation{Kind: api.ExplainApart, A: 8, B: 4, Refutations: one}, false},
		"ill":                      {four, 3, 0, api.Explanation{Kind: api.ExplainIll}, true},
		"not ill":                  {four, 1, 1, api.Explanation{Kind: api.ExplainIll}, false},
		"ill with Set":             {four, 1, 0, api.Explanation{Kind: api.ExplainIll, Set: 1}, false},
		"ill with A":               {four, 1, 0, api.Explanation{Kind: api.ExplainIll, A: 1}, false},
		"ill with B":               {four, 1, 0, api.Explanation{Kind: api.ExplainIll, B: 1}, false},
		"ill with Refutations":     {four, 1, 0, api.Explanation{Kind: api.ExplainIll, Refutations: one}, false},
		"befouled":                 {need, 1, 4, befouled, true},
		"less":                     {need, 1, 4, less, false},
		"one is wrong":             {need, 1, 4, turned, false},
		"befouled with Set":        {need, 1, 4, api.Explanation{Kind: api.ExplainBefouled, Refutations: befouled.Refutations, Set: 1}, false},
		"befouled with A":          {need, 1, 4, api.Explanation{Kind: api.ExplainBefouled, Refutations: befouled.Refutations, A: 1}, false},
		"befouled with B":          {need, 1, 4, api.Explanation{Kind: api.ExplainBefouled, Refutations: befouled.Refutations, B: 1}, false},
		"no sets, no refutations":  {four, 1, 0, api.Explanation{Kind: api.ExplainBefouled}, true},
		"no sets, one refutation":  {four, 1, 0, api.Explanation{Kind: api.ExplainBefouled, Refutations: one}, false},
		"befouled, but it is not":  {four, 0, 0, api.Explanation{Kind: api.ExplainBefouled}, false},
		"befouled for another one": {need, 1, 3, befouled, false},
	} {
		same(t, name, intact.Check(c.c, c.c, c.ill, c.v, c.x), c.want)
	}
}

// P15.4
func TestFollows(t *testing.T) {
	four, leafs := uniform(4, 3), parse(t, leaf)
	for _, c := range []struct {
		c      api.Config
		ill, s int
		v      int
		ok     bool
	}{
		{four, 0, 0, -1, false},
		{four, 0, 1, -1, false},
		{four, 0, 3, 2, true},
		{four, 0, 12, 0, true},
		{four, 0, 15, -1, false},
		{four, 1, 3, -1, false},
		{four, 1, 6, 3, true},
		{four, 3, 12, -1, false},
		{leafs, 0, 2, -1, false},
		{leafs, 0, 7, 3, true},
		{leafs, 0, 15, 4, true},
		{leafs, 1, 15, 4, true},
		{leafs, 1, 14, 4, true},
		{leafs, 1, 7, 3, true},
		{leafs, 1, 3, -1, false},
	} {
		v, ok, e := intact.Follows(c.c, c.c, c.ill, c.s)
		same(t, fmt.Sprint(c.ill, c.s), fmt.Sprint(v, ok, e), fmt.Sprint(c.v, c.ok, 0))
	}
	// It is Low that counts.
	v, ok, _ := intact.Follows(uniform(4, 3), uniform(4, 4), 0, 1)
	same(t, "Low", fmt.Sprint(v, ok), "-1 false")
}

// random makes a pair of n members.
func random(r *rand.Rand, n int) (api.Config, api.Config) {
	var low, high api.Config
	for range n {
		x := api.Trust{Nodes: r.Perm(n)[:(n+1)/2+r.Intn((n+1)/2)]}
		y := api.Trust{Nodes: x.Nodes, Threshold: 1 + r.Intn(len(x.Nodes))}
		x.Threshold = max(1, y.Threshold-r.Intn(2))
		low.Members = append(low.Members, api.Member{Declared: true, Trust: x})
		high.Members = append(high.Members, api.Member{Declared: true, Trust: y})
	}
	return low, high
}

// The consequences of the chapter.
func TestConsequences(t *testing.T) {
	r := rand.New(rand.NewSource(15))
	seen := map[int]int{}
	for range 25 {
		n := 2 + r.Intn(3)
		low, high := random(r, n)
		for ill := range 1 << n {
			good, _ := intact.Of(low, high, ill)
			bad, _ := intact.Befouled(low, high, ill)
			same(t, "quorum", good == 0 || closure.Quorum(high, good), true)
			despite, _ := dispensable.Intersects(low, ill)
			if despite {
				more, _ := intact.Of(low, high, ill|1<<r.Intn(n))
				same(t, "not more", more&^good, 0)
				is, _ := dispensable.Is(low, high, bad)
				same(t, "the least one", is, true)
			}
			for v := range n {
				x, _ := intact.Explain(low, high, ill, v)
				seen[x.Kind]++
				same(t, "Check", intact.Check(low, high, ill, v, x), true)
				same(t, "kind", x.Kind == api.ExplainIntact, nodeset.Has(good, v))
				for s := range 1 << n {
					same(t, "only for intact ones", intact.Check(low, high, ill, v, api.Explanation{Kind: api.ExplainIntact, Set: s}) && !nodeset.Has(good, v), false)
				}
				if nodeset.Has(good, v) {
					same(t, "blocks", blocking.Blocks(low, v, bad) || blocking.Blocks(high, v, bad), false)
				}
			}
			for q := range 1 << n {
				if closure.Quorum(low, q) && q&good != 0 && good&^q != 0 {
					_, ok, _ := intact.Follows(low, high, ill, q)
					same(t, "Follows", ok, true)
				}
			}
		}
	}
	same(t, "all kinds", len(seen), 4)
}
