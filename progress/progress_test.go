package progress_test

import (
	"fmt"
	"math/rand"
	"testing"

	"trustquorum/api"
	"trustquorum/nodeset"
	"trustquorum/progress"
	"trustquorum/safety"
	"trustquorum/scenario"
)

func same[T comparable](t *testing.T, name string, got, want T) {
	t.Helper()
	if got != want {
		t.Errorf("%s: got %v, want %v", name, got, want)
	}
}

func trust(k int, nodes ...int) api.Trust { return api.Trust{Threshold: k, Nodes: nodes} }

// uniform is a configuration of n members with the threshold k.
func uniform(n, k int) api.Config {
	var c api.Config
	for range n {
		c.Members = append(c.Members, api.Member{Declared: true, Trust: trust(k, nodeset.Nodes(1<<n-1)...)})
	}
	return c
}

// run runs a script without errors.
func run(t *testing.T, c api.Config, ill int, l ...api.Step) api.World {
	t.Helper()
	w, n, e := scenario.Run(c, ill, l)
	same(t, fmt.Sprint("step ", n), e, api.OK)
	return w
}

func tick(n int) api.Step { return api.Step{Kind: api.StepTick, Count: n} }
func prefer(node, slot int, v api.Value) api.Step {
	return api.Step{Kind: api.StepPrefer, Node: node, Slot: slot, Value: v}
}
func part(parts ...int) api.Step { return api.Step{Kind: api.StepPart, Parts: parts} }

// cut is a world in which three of four nodes have decided, and the last one cannot be reached.
func cut(t *testing.T) api.World {
	return run(t, uniform(4, 3), 0, part(7, 8), prefer(0, 1, "a"), prefer(1, 1, "a"), prefer(2, 1, "a"), tick(12))
}

// P34.1
func TestSettled(t *testing.T) {
	all := []api.Step{prefer(0, 1, "a"), prefer(1, 1, "a"), prefer(2, 1, "a"), prefer(3, 1, "a"), tick(12)}
	stopped := api.Step{Kind: api.StepStop, Node: 3}
	for name, c := range map[string]struct {
		w       api.World
		slot    int
		settled bool
		waiting int
	}{
		"nothing":          {run(t, uniform(4, 3), 0), 1, true, 0},
		"all":              {run(t, uniform(4, 3), 0, all...), 1, true, 0},
		"another slot":     {run(t, uniform(4, 3), 0, all...), 2, true, 0},
		"cut off":          {cut(t), 1, false, 8},
		"another slot too": {cut(t), 3, true, 0},
		"not intact":       {run(t, uniform(4, 3), 8, all[0], all[1], all[2], tick(12)), 1, true, 0},
		"stopped":          {run(t, uniform(4, 3), 0, stopped, all[0], all[1], all[2], tick(12)), 1, true, 0},
		"nobody is intact": {run(t, uniform(2, 1), 0, prefer(0, 1, "a")), 1, true, 0},
		"an error":         {run(t, uniform(8, 5), 0), 1, false, 0},
		"not right":        {api.World{}, 1, false, 0},
	} {
		same(t, name, progress.Settled(c.w, c.slot), c.settled)
		same(t, name, progress.Waiting(c.w, c.slot), c.waiting)
	}
	same(t, "not intact, but decided", len(scenario.Outcomes(run(t, uniform(2, 1), 0, prefer(0, 1, "a")))), 1)
}

// P34.2
func TestCalm(t *testing.T) {
	for n, want := range map[int]int{0: 26, 1: 29, 4: 38, 10: 56, 100: 326} {
		same(t, "Enough", progress.Enough(api.World{Nodes: make([]api.Participant, n)}), want)
	}
	w := cut(t)
	calm, e := progress.Calm(w)
	want, _ := scenario.Quiet(w, 38)
	same(t, "Calm", fmt.Sprint(calm, e), fmt.Sprint(want, 0))
	same(t, "settled", progress.Settled(calm, 1), true)
	same(t, "all", len(scenario.Outcomes(calm)), 4)
	late := run(t, uniform(4, 3), 0, tick(163))
	calm, e = progress.Calm(late)
	same(t, "too late", fmt.Sprint(calm, e), fmt.Sprint(api.World{}, api.ErrLimit))
	_, e = progress.Calm(run(t, uniform(4, 3), 0, tick(162)))
	same(t, "not too late", e, api.OK)
	calm, e = progress.Calm(api.World{})
	same(t, "not right", fmt.Sprint(calm, e), fmt.Sprint(api.World{}, api.ErrState))
}

// P34.3
func TestHolds(t *testing.T) {
	w := cut(t)
	calm, _ := progress.Calm(w)
	empty := run(t, uniform(4, 3), 0)
	other := run(t, uniform(4, 3), 0, prefer(0, 1, "b"), prefer(1, 1, "b"), prefer(2, 1, "b"), prefer(3, 1, "b"), tick(12))
	mixed := w
	mixed.Nodes = append(append([]api.Participant{}, w.Nodes[:3]...), other.Nodes[3])
	same(t, "right", scenario.Check(mixed), true)
	stopped, _ := scenario.Do(w, api.Step{Kind: api.StepStop, Node: 3})
	self := run(t, uniform(2, 1), 0, prefer(0, 1, "a"))
	deep := uniform(2, 1)
	deep.Members[0].Trust = api.Trust{Threshold: 1, Inner: []api.Trust{{Threshold: 1, Inner: []api.Trust{{Threshold: 1, Inner: []api.Trust{trust(1, 0)}}}}}}
	deeper := api.Step{Kind: api.StepDeclare, Node: 0, Trust: trust(1, 0)}
	for name, c := range map[string]struct {
		before, after api.World
		want          bool
	}{
		"calm":                   {w, calm, true},
		"not yet":                {w, w, false},
		"nothing":                {empty, empty, true},
		"later":                  {empty, calm, true},
		"all":                    {calm, calm, true},
		"lost":                   {calm, empty, false},
		"another value":          {calm, other, false},
		"another value of one":   {w, mixed, false},
		"intact in both":         {w, stopped, true},
		"nobody is intact":       {self, self, true},
		"nobody is intact, lost": {self, run(t, uniform(2, 1), 0), false},
		"not right":              {api.World{}, calm, false},
		"not right, after":       {empty, api.World{}, false},
		"an error, after":        {run(t, deep, 0), run(t, deep, 0, deeper), false},
		"an error, before":       {run(t, deep, 0, deeper), run(t, deep, 0), false},
		"an error":               {run(t, uniform(8, 5), 0), run(t, uniform(8, 5), 0), false},
	} {
		same(t, name, progress.Holds(c.before, c.after), c.want)
	}
}

// The consequence of the chapter, with random scripts and liars.
func TestConsequence(t *testing.T) {
	r := rand.New(rand.NewSource(34))
	reached := 0
	for range 120 {
		n := 3 + r.Intn(2)
		c := uniform(n, n-1)
		ill := 0
		if r.Intn(2) == 0 {
			ill = 1 << r.Intn(n)
		}
		w := run(t, c, ill)
		for range 30 {
			k, v := r.Intn(n), string(rune('a'+r.Intn(3)))
			e := api.Envelope{Node: k, Slot: 1, Seq: 1 + r.Intn(9), Trust: trust(1, k), Kind: api.KindExternal, Ballot: api.Ballot{Counter: 1, Value: v}, Low: 1, High: 1}
			if r.Intn(2) == 0 {
				e.Kind, e.Prepared, e.Low, e.High = api.KindPrepare, e.Ballot, 0, 0
				e.Ballot.Counter = 1 + r.Intn(5)
			}
			l := []api.Step{prefer(k, 1, v), prefer(k, 2, v), tick(1), tick(2), {Kind: api.StepPropose, Node: k, Slot: 1, Value: v}, {Kind: api.StepShow, Node: k, To: r.Intn(n), Letter: api.Letter{Kind: api.LetterEnvelope, Slot: 1, Envelope: e}}, part(1, 6), part(3, 4), part(), {Kind: api.StepDelay, Node: k, To: r.Intn(n), Count: r.Intn(8)}}
			if r.Intn(60) == 0 {
				l = []api.Step{{Kind: api.StepStop, Node: k}, {Kind: api.StepDeclare, Node: k, Trust: trust(n, nodeset.Nodes(1<<n-1)...)}}
			}
			if next, e := scenario.Do(w, l[r.Intn(len(l))]); e == api.OK {
				w = next
			}
		}
		calm, e := progress.Calm(w)
		same(t, "Calm", e, api.OK)
		if _, e := safety.Intact(w); e != api.OK {
			continue
		}
		same(t, "Holds", progress.Holds(w, calm), true)
		reached += nodeset.Size(progress.Waiting(w, 1)) + nodeset.Size(progress.Waiting(w, 2))
	}
	same(t, "some had to wait", reached > 5, true)
}
