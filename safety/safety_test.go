package safety_test

import (
	"fmt"
	"math/rand"
	"testing"

	"trustquorum/api"
	"trustquorum/configuration"
	"trustquorum/intact"
	"trustquorum/nodeset"
	"trustquorum/safety"
	"trustquorum/scenario"
)

func same[T comparable](t *testing.T, name string, got, want T) {
	t.Helper()
	if got != want {
		t.Errorf("%s: got %v, want %v", name, got, want)
	}
}

func trust(k int, nodes ...int) api.Trust { return api.Trust{Threshold: k, Nodes: nodes} }

// uniform is a configuration of n members with the threshold k.
func uniform(n, k int) api.Config {
	var c api.Config
	for range n {
		c.Members = append(c.Members, api.Member{Declared: true, Trust: trust(k, nodeset.Nodes(1<<n-1)...)})
	}
	return c
}

// selfish is a configuration of n members, each of which trusts itself.
func selfish(n int) api.Config {
	var c api.Config
	for k := range n {
		c.Members = append(c.Members, api.Member{Declared: true, Trust: trust(1, k)})
	}
	return c
}

// run runs a script without errors.
func run(t *testing.T, c api.Config, ill int, l ...api.Step) api.World {
	t.Helper()
	w, n, e := scenario.Run(c, ill, l)
	same(t, fmt.Sprint("step ", n), e, api.OK)
	return w
}

func tick(n int) api.Step { return api.Step{Kind: api.StepTick, Count: n} }
func prefer(node, slot int, v api.Value) api.Step {
	return api.Step{Kind: api.StepPrefer, Node: node, Slot: slot, Value: v}
}
func stop(node int) api.Step { return api.Step{Kind: api.StepStop, Node: node} }
func declare(node int, x api.Trust) api.Step {
	return api.Step{Kind: api.StepDeclare, Node: node, Trust: x}
}

// P33.1
func TestPair(t *testing.T) {
	w := run(t, uniform(3, 2), 0, declare(0, trust(3, 0, 1, 2)), declare(0, trust(1, 0)), stop(2))
	low, high, e := safety.Pair(w)
	same(t, "Pair", e, api.OK)
	rest := "1: 2 of (0, 1, 2)\n2: 2 of (0, 1, 2)\n"
	same(t, "low", configuration.Text(low), "0: 1 of (1 of (0), 2 of (0, 1, 2), 3 of (0, 1, 2))\n"+rest)
	same(t, "high", configuration.Text(high), "0: 3 of (1 of (0), 2 of (0, 1, 2), 3 of (0, 1, 2))\n"+rest)
	want, _ := intact.Of(low, high, 4)
	got, e := safety.Intact(w)
	same(t, "Intact", fmt.Sprint(got, e), fmt.Sprint(want, 0))
	for _, c := range []struct {
		w    api.World
		want int
	}{
		{run(t, uniform(4, 3), 0), 15},
		{run(t, uniform(4, 3), 1), 14},
		{run(t, uniform(4, 3), 0, stop(3)), 7},
		{run(t, uniform(4, 3), 1, stop(3)), 0},
		{run(t, selfish(2), 0), 0},
		{run(t, uniform(4, 3), 0, declare(0, trust(4, 0, 1, 2, 3)), stop(1)), 0},
		{run(t, uniform(4, 2), 0), 0},
	} {
		got, e := safety.Intact(c.w)
		same(t, "Intact", fmt.Sprint(got, e), fmt.Sprint(c.want, 0))
	}
	deep := uniform(2, 1)
	deep.Members[0].Trust = api.Trust{Threshold: 1, Inner: []api.Trust{{Threshold: 1, Inner: []api.Trust{{Threshold: 1, Inner: []api.Trust{trust(1, 0)}}}}}}
	for name, c := range map[string]struct {
		w api.World
		e api.Errno
	}{
		"not right":  {api.World{}, api.ErrState},
		"too deep":   {run(t, deep, 0, declare(0, trust(1, 0))), api.ErrLimit},
		"too many":   {run(t, uniform(8, 5), 0), api.OK},
		"deep alone": {run(t, deep, 0), api.OK},
	} {
		low, high, e := safety.Pair(c.w)
		same(t, name, e, c.e)
		if e != api.OK {
			same(t, name, len(low.Members)+len(high.Members), 0)
			got, e := safety.Intact(c.w)
			same(t, name, fmt.Sprint(got, e), fmt.Sprint(0, c.e))
			same(t, name, safety.Safe(c.w), false)
		}
	}
	got, e = safety.Intact(run(t, uniform(8, 5), 0))
	same(t, "eight", fmt.Sprint(got, e), fmt.Sprint(0, api.ErrLimit))
	same(t, "eight", safety.Safe(run(t, uniform(8, 5), 0)), false)
}

// P33.2 and P33.3
func TestDiverged(t *testing.T) {
	for name, c := range map[string]struct {
		c     api.Config
		ill   int
		l     []api.Step
		want  string
		safe  bool
		value string
	}{
		"nothing":             {selfish(3), 0, nil, "[]", true, " 0"},
		"two":                 {selfish(2), 0, []api.Step{prefer(0, 1, "a"), prefer(1, 1, "b")}, "[{0 1 a} {1 1 b}]", true, "a 1"},
		"the same":            {selfish(2), 0, []api.Step{prefer(0, 1, "a"), prefer(1, 1, "a")}, "[]", true, "a 3"},
		"the last two":        {selfish(3), 0, []api.Step{prefer(0, 1, "a"), prefer(1, 1, "a"), prefer(2, 1, "b")}, "[{0 1 a} {2 1 b}]", true, "a 3"},
		"the first slot":      {selfish(3), 0, []api.Step{prefer(0, 7, "a"), prefer(1, 7, "b"), prefer(1, 3, "c"), prefer(2, 3, "d")}, "[{1 3 c} {2 3 d}]", true, " 0"},
		"the first slot, too": {selfish(3), 0, []api.Step{prefer(0, 5, "a"), prefer(0, 9, "z"), prefer(1, 2, "c"), prefer(1, 5, "b"), prefer(2, 2, "d")}, "[{1 2 c} {2 2 d}]", true, " 0"},
		"behind another slot": {selfish(2), 0, []api.Step{prefer(0, 3, "q"), prefer(1, 1, "b"), prefer(0, 1, "b")}, "[]", true, "b 3"},
		"the least pair":      {selfish(4), 0, []api.Step{prefer(1, 1, "a"), prefer(2, 1, "b"), prefer(3, 1, "c")}, "[{1 1 a} {2 1 b}]", true, "a 2"},
		"other slots":         {selfish(2), 0, []api.Step{prefer(0, 1, "a"), prefer(1, 2, "b")}, "[]", true, "a 1"},
		"stopped ones count":  {selfish(2), 0, []api.Step{prefer(0, 1, "a"), prefer(1, 1, "b"), stop(0)}, "[{0 1 a} {1 1 b}]", true, "a 1"},
		"the third has it":    {selfish(3), 0, []api.Step{prefer(0, 1, "a"), prefer(1, 1, "b"), prefer(2, 1, "a")}, "[{0 1 a} {1 1 b}]", true, "a 5"},
		"all agree":           {uniform(4, 3), 0, []api.Step{prefer(0, 1, "a"), prefer(1, 1, "b"), prefer(2, 1, "a"), prefer(3, 1, "a"), tick(30)}, "[]", true, "? 15"},
		"the first is silent": {uniform(4, 3), 1, []api.Step{prefer(1, 1, "b"), prefer(2, 1, "b"), prefer(3, 1, "b"), tick(30)}, "[]", true, "b 14"},
	} {
		w := run(t, c.c, c.ill, c.l...)
		same(t, name, fmt.Sprint(safety.Diverged(w)), c.want)
		same(t, name, safety.Safe(w), c.safe)
		v, s := safety.Agreed(w, 1)
		if c.value[0] == '?' {
			v = "?"
		}
		same(t, name, fmt.Sprint(v, " ", s), c.value)
	}
	// A world that no run leads to: two nodes that are intact differ.
	w := run(t, uniform(2, 2), 0, prefer(0, 1, "a"), prefer(1, 1, "a"), tick(12))
	other := run(t, uniform(2, 2), 0, prefer(0, 1, "b"), prefer(1, 1, "b"), tick(12))
	same(t, "decided", len(scenario.Outcomes(w))+len(scenario.Outcomes(other)), 4)
	w.Nodes[1] = other.Nodes[1]
	same(t, "right", scenario.Check(w), true)
	same(t, "diverged", fmt.Sprint(safety.Diverged(w)), "[{0 1 a} {1 1 b}]")
	same(t, "not safe", safety.Safe(w), false)
	w.Ill = 1
	same(t, "an ill one does not count", fmt.Sprint(len(safety.Diverged(w)), safety.Safe(w)), "0 true")
	v, s := safety.Agreed(w, 1)
	same(t, "an ill one does not count", fmt.Sprint(v, s), "b2")
	same(t, "not right", len(safety.Diverged(api.World{})), 0)
	v, s = safety.Agreed(run(t, selfish(2), 0, prefer(0, 1, "a"), prefer(0, 2, "b"), prefer(1, 2, "b")), 2)
	same(t, "the second slot", fmt.Sprint(v, s), "b3")
	v, s = safety.Agreed(api.World{}, 1)
	same(t, "not right", fmt.Sprint(v, s), "0")
}

// P33.3
func TestKept(t *testing.T) {
	a := run(t, selfish(3), 0, prefer(0, 1, "a"))
	ab := run(t, selfish(3), 0, prefer(0, 1, "a"), prefer(1, 1, "b"))
	b := run(t, selfish(3), 0, prefer(0, 1, "b"))
	other := run(t, selfish(3), 0, prefer(0, 2, "a"))
	empty := run(t, selfish(3), 0)
	for _, c := range []struct {
		before, after api.World
		want          bool
	}{{a, a, true}, {a, ab, true}, {ab, a, false}, {a, b, false}, {a, other, false}, {empty, a, true}, {a, empty, false}, {api.World{}, a, false}, {empty, api.World{}, false}} {
		same(t, "Kept", safety.Kept(c.before, c.after), c.want)
	}
}

// The consequences of the chapter: every run is safe and kept.
func TestConsequences(t *testing.T) {
	r := rand.New(rand.NewSource(33))
	judged := 0
	for range 60 {
		n := 3 + r.Intn(2)
		c := uniform(n, n-1)
		if r.Intn(3) == 0 {
			c = uniform(n, 1+r.Intn(n))
		}
		ill := 0
		if r.Intn(2) == 0 {
			ill = 1 << r.Intn(n)
		}
		w := run(t, c, ill)
		for range 30 {
			k, v := r.Intn(n), string(rune('a'+r.Intn(3)))
			e := api.Envelope{Node: k, Slot: 1, Seq: 1 + r.Intn(9), Trust: trust(1, k), Kind: api.KindExternal, Ballot: api.Ballot{Counter: 1, Value: v}, Low: 1, High: 1}
			l := []api.Step{prefer(k, 1, v), prefer(k, 2, v), tick(1), tick(3), {Kind: api.StepPropose, Node: k, Slot: 1, Value: v}, {Kind: api.StepShow, Node: k, To: r.Intn(n), Letter: api.Letter{Kind: api.LetterEnvelope, Slot: 1, Envelope: e}}, {Kind: api.StepPart, Parts: []int{1, 6}}, {Kind: api.StepPart}}
			if r.Intn(40) == 0 {
				l = []api.Step{stop(k), declare(k, trust(n-1, nodeset.Nodes(1<<n-1)...)), declare(k, trust(n, nodeset.Nodes(1<<n-1)...))}
			}
			next, e2 := scenario.Do(w, l[r.Intn(len(l))])
			if e2 != api.OK {
				continue
			}
			same(t, "kept", safety.Kept(w, next), true)
			if good, e := safety.Intact(next); e == api.OK {
				judged += nodeset.Size(good)
				same(t, "safe", safety.Safe(next), true)
			}
			w = next
		}
	}
	same(t, "judged", judged > 500, true)
}
