package analyser_test

import (
	"fmt"
	"math"
	"math/rand"
	"slices"
	"testing"

	"trustquorum/analyser"
	"trustquorum/api"
	"trustquorum/closure"
	"trustquorum/configuration"
	"trustquorum/danger"
	"trustquorum/deletion"
	"trustquorum/nodeset"
	"trustquorum/quorums"
	"trustquorum/safety"
	"trustquorum/scenario"
)

func same[T comparable](t *testing.T, name string, got, want T) {
	t.Helper()
	if got != want {
		t.Errorf("%s: got %v, want %v", name, got, want)
	}
}

func parse(text string) api.Config {
	c, _, e := configuration.Parse(text)
	if e != api.OK {
		panic(text)
	}
	return c
}

// uniform is a configuration of n members with the threshold k.
func uniform(n, k int) api.Config {
	var c api.Config
	for range n {
		c.Members = append(c.Members, api.Member{Declared: true, Trust: api.Trust{Threshold: k, Nodes: nodeset.Nodes(1<<n - 1)}})
	}
	return c
}

// P43.1 and P43.2
func TestJudge(t *testing.T) {
	for _, c := range []struct {
		c   api.Config
		set int
		v   api.Verdict
	}{
		{uniform(3, 2), 0, api.Verdict{}},
		{uniform(3, 2), 1, api.Verdict{Nodes: 1, Splits: true, Left: 2, Right: 4}},
		{uniform(3, 2), 3, api.Verdict{Nodes: 3, Halts: true}},
		{uniform(3, 2), 7, api.Verdict{Nodes: 7, Halts: true}},
		{uniform(4, 3), 3, api.Verdict{Nodes: 3, Splits: true, Halts: true, Left: 4, Right: 8}},
		{uniform(4, 2), 0, api.Verdict{Splits: true, Left: 3, Right: 12}},
		{uniform(4, 1), 0, api.Verdict{Splits: true, Left: 1, Right: 14}},
		{uniform(9, 5), 3, api.Verdict{Nodes: 3, Splits: true, Left: 28, Right: 480}},
		{parse("0: 1 of (1)\n1: 1 of (1)\n2: 1 of (2)"), 0, api.Verdict{Splits: true, Left: 2, Right: 4}},
		{parse("0: 1 of (1)\n1: 1 of (1)\n2: 1 of (3)\n3: 1 of (3)"), 0, api.Verdict{Splits: true, Left: 2, Right: 12}},
		{api.Config{}, 0, api.Verdict{Halts: true}},
	} {
		v, e := analyser.Judge(c.c, c.set)
		same(t, configuration.Text(c.c), v, c.v)
		same(t, configuration.Text(c.c), e, api.OK)
		left, right, ok := analyser.Pair(c.c, c.set)
		same(t, "Pair", fmt.Sprint(left, right, ok), fmt.Sprint(c.v.Left, c.v.Right, c.v.Splits))
		same(t, "Silent", analyser.Silent(c.c, c.set), c.v.Halts)
		same(t, "Proves", analyser.Proves(c.c, c.v), true)
	}
	for _, c := range []struct {
		c   api.Config
		set int
		e   api.Errno
	}{
		{api.Config{Members: make([]api.Member, 11)}, -1, api.ErrLimit},
		{uniform(3, 4), -1, api.ErrThreshold},
		{parse("0: -"), -1, api.ErrMissing},
		{uniform(3, 2), -1, api.ErrInvalid},
		{uniform(3, 2), 8, api.ErrInvalid},
		{uniform(10, 2), 1024, api.ErrInvalid},
		{uniform(3, 2), math.MinInt, api.ErrInvalid},
	} {
		v, e := analyser.Judge(c.c, c.set)
		same(t, "Judge", fmt.Sprint(v, e), fmt.Sprint(api.Verdict{}, c.e))
		left, right, ok := analyser.Pair(c.c, c.set)
		same(t, "Pair", fmt.Sprint(left, right, ok), "0 0 false")
		same(t, "Silent", analyser.Silent(c.c, c.set), false)
		l, e := analyser.Split(c.c, c.set)
		same(t, "Split", fmt.Sprint(l, e), fmt.Sprint([]int{}, c.e))
		same(t, "Proves", analyser.Proves(c.c, api.Verdict{Nodes: c.set}), false)
		if c.e != api.ErrInvalid {
			all, e := analyser.All(c.c)
			same(t, "All", fmt.Sprint(all, e), fmt.Sprint([]int{}, c.e))
			splitting, halting, e := analyser.Least(c.c)
			same(t, "Least", fmt.Sprint(splitting, halting, e), fmt.Sprint([]int{}, []int{}, c.e))
		}
	}
}

// P43.2
func TestAll(t *testing.T) {
	for _, c := range []struct {
		c                  api.Config
		splitting, halting []int
	}{
		{uniform(3, 2), []int{1, 2, 4}, []int{3, 5, 6}},
		{uniform(4, 3), []int{3, 5, 6, 9, 10, 12}, []int{3, 5, 6, 9, 10, 12}},
		{uniform(4, 2), []int{0}, []int{7, 11, 13, 14}},
		{parse("0: 1 of (0)\n1: 2 of (0, 1)\n2: 2 of (0, 2)"), []int{1}, []int{1}},
		{parse("0: 2 of (0, 1)\n1: 2 of (0, 1)\n2: 2 of (2, 3)\n3: 2 of (2, 3)\n4: 1 of (4)"), []int{0}, []int{21, 22, 25, 26}},
		{parse("0: 3 of (0, 1, 2)\n1: 3 of (0, 1, 2)\n2: 3 of (0, 1, 2)\n3: 2 of (0, 3)"), []int{1}, []int{1, 2, 4}},
		{api.Config{}, nil, []int{0}},
	} {
		all, e := analyser.All(c.c)
		same(t, "All", fmt.Sprint(len(all), e), fmt.Sprint(1<<len(c.c.Members), 0))
		for s, v := range all {
			want, _ := analyser.Judge(c.c, s)
			same(t, "All", v, want)
		}
		splitting, halting, e := analyser.Least(c.c)
		same(t, configuration.Text(c.c), fmt.Sprint(splitting, halting, e), fmt.Sprint(c.splitting, c.halting, 0))
	}
	all, e := analyser.All(uniform(7, 5))
	same(t, "seven", fmt.Sprint(len(all), e), "128 0")
	all, e = analyser.All(uniform(8, 5))
	same(t, "eight", fmt.Sprint(all, e), fmt.Sprint([]int{}, api.ErrLimit))
	splitting, halting, e := analyser.Least(uniform(8, 5))
	same(t, "eight", fmt.Sprint(splitting, halting, e), fmt.Sprint([]int{}, []int{}, api.ErrLimit))
	// Ascending as numbers, not in the order of sets.
	splitting, halting, _ = analyser.Least(parse("0: 2 of (0, 1)\n1: 2 of (0, 1)\n2: 1 of (2)\n3: 2 of (0, 1)"))
	same(t, "numbers", fmt.Sprint(splitting, halting), "[0] [5 6]")
}

// P43.3
func TestSplit(t *testing.T) {
	prefer := func(node int, v api.Value) api.Step {
		return api.Step{Kind: api.StepPrefer, Node: node, Slot: 1, Value: v}
	}
	lie := func(node, to int, v api.Value) api.Step {
		e := api.Envelope{Node: node, Slot: 1, Seq: 1, Trust: api.Trust{Threshold: 1, Nodes: []int{node}}, Kind: api.KindExternal, Ballot: api.Ballot{Counter: 1, Value: v}, Low: 1, High: 1}
		return api.Step{Kind: api.StepShow, Node: node, To: to, Letter: api.Letter{Kind: api.LetterEnvelope, Slot: 1, Envelope: e}}
	}
	part := func(l ...int) api.Step { return api.Step{Kind: api.StepPart, Parts: l} }
	end := api.Step{Kind: api.StepTick, Count: 12}
	for _, c := range []struct {
		c     api.Config
		liars int
		want  []api.Step
	}{
		{uniform(3, 2), 1, []api.Step{part(2, 4), prefer(1, "a"), prefer(2, "b"), lie(0, 1, "a"), lie(0, 2, "b"), end}},
		{uniform(4, 3), 5, []api.Step{part(2, 8), prefer(1, "a"), prefer(3, "b"), lie(0, 1, "a"), lie(0, 3, "b"), lie(2, 1, "a"), lie(2, 3, "b"), end}},
		{uniform(4, 2), 0, []api.Step{part(3, 12), prefer(0, "a"), prefer(1, "a"), prefer(2, "b"), prefer(3, "b"), end}},
		{parse("0: 1 of (0)\n1: 1 of (1)\n2: 2 of (0, 1)\n3: 1 of (0)\n4: 1 of (3)"), 8, []api.Step{part(1, 18, 4), prefer(0, "a"), prefer(1, "b"), prefer(4, "b"), lie(3, 0, "a"), lie(3, 1, "b"), lie(3, 4, "b"), end}},
	} {
		l, e := analyser.Split(c.c, c.liars)
		same(t, fmt.Sprint(c.liars), fmt.Sprint(l, e), fmt.Sprint(c.want, 0))
	}
	l, e := analyser.Split(uniform(3, 2), 3)
	same(t, "no pair", fmt.Sprint(l, e), fmt.Sprint([]int{}, api.ErrNone))
}

// P43.4
func TestProves(t *testing.T) {
	c := uniform(4, 1)
	for name, x := range map[string]struct {
		v    api.Verdict
		want bool
	}{
		"that of Judge":   {api.Verdict{Splits: true, Left: 1, Right: 14}, true},
		"another pair":    {api.Verdict{Splits: true, Left: 6, Right: 8}, true},
		"turned":          {api.Verdict{Splits: true, Left: 14, Right: 1}, true},
		"not disjoint":    {api.Verdict{Splits: true, Left: 3, Right: 6}, false},
		"an empty one":    {api.Verdict{Splits: true, Left: 3}, false},
		"no pair":         {api.Verdict{Splits: true}, false},
		"no members":      {api.Verdict{Splits: true, Left: 1, Right: 16}, false},
		"negative":        {api.Verdict{Splits: true, Left: 1, Right: -2}, false},
		"does not split":  {api.Verdict{}, false},
		"halts":           {api.Verdict{Splits: true, Halts: true, Left: 1, Right: 14}, false},
		"with a liar":     {api.Verdict{Nodes: 1, Splits: true, Left: 1, Right: 14}, false},
		"without it":      {api.Verdict{Nodes: 1, Splits: true, Left: 2, Right: 8}, true},
		"all":             {api.Verdict{Nodes: 15, Halts: true}, true},
		"all, left":       {api.Verdict{Nodes: 15, Halts: true, Left: 1}, false},
		"all, right":      {api.Verdict{Nodes: 15, Halts: true, Right: 1}, false},
		"all, not halted": {api.Verdict{Nodes: 15}, false},
		"no set":          {api.Verdict{Nodes: 16, Halts: true}, false},
	} {
		same(t, name, analyser.Proves(c, x.v), x.want)
	}
	var want []api.Step
	for k := range 3 {
		want = append(want, api.Step{Kind: api.StepPrefer, Node: k, Slot: 1, Value: "v"})
	}
	want = append(want, api.Step{Kind: api.StepTick, Count: 12})
	same(t, "Plain", fmt.Sprint(analyser.Plain(uniform(3, 2), "v")), fmt.Sprint(want))
	same(t, "Plain", fmt.Sprint(analyser.Plain(parse("0: -\n1: -\n2: -"), "v")), fmt.Sprint(want))
	same(t, "Plain", fmt.Sprint(analyser.Plain(api.Config{}, "v")), fmt.Sprint(want[3:]))
	same(t, "not valid", len(analyser.Plain(uniform(3, 4), "v")), 0)
}

// random makes a configuration of n members.
func random(r *rand.Rand, n int) api.Config {
	var c api.Config
	for range n {
		x := api.Trust{Nodes: r.Perm(n)[:1+r.Intn(n)]}
		x.Threshold = 1 + r.Intn(len(x.Nodes))
		c.Members = append(c.Members, api.Member{Declared: true, Trust: x})
	}
	return c
}

// The consequences of the chapter: the verdicts agree with the executions, and with the definitions.
func TestConsequences(t *testing.T) {
	r := rand.New(rand.NewSource(43))
	split, not := 0, 0
	for range 40 {
		n := 2 + r.Intn(3)
		c := random(r, n)
		minimal, _ := quorums.Minimal(c)
		for s := range 1 << n {
			v, _ := analyser.Judge(c, s)
			same(t, "Proves", analyser.Proves(c, v), true)
			splits, _ := danger.Splits(c, s)
			same(t, "Splits", v.Splits, splits)
			same(t, "Halts", v.Halts, !slices.ContainsFunc(minimal, func(q int) bool { return q&s == 0 }))
			if v.Splits {
				split++
				rest := deletion.Delete(c, s)
				same(t, "greatest", closure.Greatest(rest, v.Left) == v.Left && closure.Greatest(rest, v.Right) == v.Right, true)
				l, _ := analyser.Split(c, s)
				w, _, e := scenario.Run(c, s, l)
				same(t, "Split runs", e, api.OK)
				same(t, configuration.Text(c)+fmt.Sprint(s), len(safety.Diverged(w)), 2)
				continue
			}
			not++
			w, e := scenario.New(c, s)
			for range 25 {
				k, value := r.Intn(n), string(rune('a'+r.Intn(2)))
				e := api.Envelope{Node: k, Slot: 1, Seq: 1 + r.Intn(9), Trust: api.Trust{Threshold: 1, Nodes: []int{k}}, Kind: api.KindExternal, Ballot: api.Ballot{Counter: 1, Value: value}, Low: 1, High: 1}
				l := []api.Step{{Kind: api.StepPrefer, Node: k, Slot: 1, Value: value}, {Kind: api.StepTick, Count: 1}, {Kind: api.StepShow, Node: k, To: r.Intn(n), Letter: api.Letter{Kind: api.LetterEnvelope, Slot: 1, Envelope: e}}, {Kind: api.StepPart, Parts: []int{1, 2}}, {Kind: api.StepPart}}
				if next, e := scenario.Do(w, l[r.Intn(len(l))]); e == api.OK {
					w = next
				}
			}
			same(t, "New", e, api.OK)
			same(t, configuration.Text(c)+fmt.Sprint(s), len(safety.Diverged(w)), 0)
		}
	}
	same(t, "both", split > 50 && not > 50, true)
}
