package timers_test

import (
	"fmt"
	"math"
	"testing"

	"trustquorum/api"
	"trustquorum/machine"
	"trustquorum/timers"
)

func same[T comparable](t *testing.T, name string, got, want T) {
	t.Helper()
	if got != want {
		t.Errorf("%s: got %v, want %v", name, got, want)
	}
}

func trust(k int, nodes ...int) api.Trust { return api.Trust{Threshold: k, Nodes: nodes} }

func of(n int, v api.Value) api.Ballot { return api.Ballot{Counter: n, Value: v} }

// at is a machine of node 0 with a trust and a counter.
func at(counter int, x api.Trust, l ...api.Envelope) api.Machine {
	return api.Machine{Node: 0, Slot: 1, Seq: 1, Trust: x, Phase: api.PhasePrepare, Ballot: of(counter, "a"), Heard: l}
}

// says is an envelope of a node with a counter.
func says(node, counter int, x api.Trust) api.Envelope {
	return api.Envelope{Node: node, Slot: 1, Seq: 1, Trust: x, Kind: api.KindPrepare, Ballot: of(counter, "b")}
}

// P28.1
func TestWait(t *testing.T) {
	for counter, want := range map[int]int{math.MinInt: 1, -1: 1, 0: 1, 1: 2, 2: 3, 10: 11, 11: 12, 12: 12, 1000: 12, math.MaxInt: 12} {
		same(t, fmt.Sprint(counter), timers.Wait(counter), want)
	}
	for _, c := range []struct {
		counter, due int
		want         bool
	}{{0, -1, true}, {api.Infinity, 212, true}, {5, 0, true}, {-1, 0, false}, {api.Infinity + 1, 0, false}, {0, -2, false}, {0, 213, false}, {math.MaxInt, math.MinInt, false}} {
		same(t, fmt.Sprint(c), timers.Valid(api.Timer{Counter: c.counter, Due: c.due}), c.want)
	}
}

// P28.2
func TestTogether(t *testing.T) {
	three := trust(2, 0, 1, 2)
	external := api.Envelope{Node: 1, Slot: 1, Seq: 1, Trust: three, Kind: api.KindExternal, Ballot: of(1, "b"), Low: 1, High: 1}
	decided := at(1, trust(1, 0))
	decided.Phase, decided.Low, decided.High = api.PhaseExternal, 1, 1
	same(t, "decided", machine.Check(decided), true)
	committed := at(1, trust(1, 0))
	committed.Phase, committed.Low, committed.High, committed.Prepared = api.PhaseCommit, 1, 1, of(1, "a")
	wrong := at(1, trust(1, 0))
	wrong.High = 1
	bare, _ := machine.New(0, 1, trust(1, 0))
	for name, c := range map[string]struct {
		m    api.Machine
		want bool
	}{
		"alone":                  {at(1, trust(1, 0)), true},
		"committed":              {committed, true},
		"decided":                {decided, false},
		"not right":              {wrong, false},
		"zero":                   {api.Machine{}, false},
		"no ballot":              {bare, false},
		"nobody else":            {at(1, three), false},
		"as far":                 {at(2, three, says(1, 2, three)), true},
		"farther":                {at(2, three, says(1, 3, three)), true},
		"not as far":             {at(2, three, says(1, 1, three)), false},
		"one of two is as far":   {at(2, three, says(1, 1, three), says(2, 2, three)), true},
		"external":               {at(2, three, external), true},
		"needs another one":      {at(2, three, says(1, 2, trust(2, 1, 2))), false},
		"and that one is as far": {at(2, three, says(1, 2, trust(2, 1, 2)), says(2, 2, three)), true},
		"a quorum without it":    {at(2, trust(3, 0, 1, 3), says(1, 2, trust(1, 1)), says(2, 2, trust(1, 2))), false},
	} {
		same(t, name, timers.Together(c.m), c.want)
	}
}

// P28.3
func TestStep(t *testing.T) {
	alone := at(1, trust(1, 0))
	waiting := at(3, trust(2, 0, 1))
	for name, c := range map[string]struct {
		t    api.Timer
		m    api.Machine
		now  int
		want api.Timer
		out  bool
	}{
		"begins":            {api.Timer{Counter: 0, Due: -1}, alone, 5, api.Timer{Counter: 1, Due: 7}, false},
		"begins again":      {api.Timer{Counter: 1, Due: -1}, alone, 5, api.Timer{Counter: 1, Due: 7}, false},
		"another counter":   {api.Timer{Counter: 2, Due: 5}, alone, 5, api.Timer{Counter: 1, Due: 7}, false},
		"runs":              {api.Timer{Counter: 1, Due: 7}, alone, 6, api.Timer{Counter: 1, Due: 7}, false},
		"runs out":          {api.Timer{Counter: 1, Due: 7}, alone, 7, api.Timer{Counter: 1, Due: -1}, true},
		"has run out":       {api.Timer{Counter: 1, Due: 7}, alone, 200, api.Timer{Counter: 1, Due: -1}, true},
		"due at 0":          {api.Timer{Counter: 1, Due: 0}, alone, 0, api.Timer{Counter: 1, Due: -1}, true},
		"not together":      {api.Timer{Counter: 3, Due: 7}, waiting, 7, api.Timer{Counter: 3, Due: -1}, false},
		"another, waiting":  {api.Timer{Counter: 1, Due: 7}, waiting, 7, api.Timer{Counter: 3, Due: -1}, false},
		"long":              {api.Timer{}, at(1000, trust(1, 0)), 200, api.Timer{Counter: 1000, Due: 212}, false},
		"not right":         {api.Timer{Counter: 1, Due: 7}, api.Machine{Ballot: of(-7, "")}, 7, api.Timer{Counter: -7, Due: -1}, false},
		"not valid":         {api.Timer{Counter: -1, Due: 7}, alone, 7, api.Timer{Due: -1}, false},
		"Due not valid":     {api.Timer{Counter: 1, Due: 213}, alone, 7, api.Timer{Due: -1}, false},
		"now is too small":  {api.Timer{Counter: 1, Due: 7}, alone, -1, api.Timer{Due: -1}, false},
		"now is too great":  {api.Timer{Counter: 1, Due: 7}, alone, 201, api.Timer{Due: -1}, false},
		"now is far beyond": {api.Timer{Counter: 1, Due: 7}, alone, math.MaxInt, api.Timer{Due: -1}, false},
	} {
		got, out := timers.Step(c.t, c.m, c.now)
		same(t, name, got, c.want)
		same(t, name, out, c.out)
	}
}

// The consequence of the chapter.
func TestConsequence(t *testing.T) {
	timer, begun, counter := api.Timer{Due: -1}, -1, 0
	m := at(1, trust(1, 0))
	for now := range 200 {
		before := timer
		next, out := timers.Step(timer, m, now)
		if next.Due >= 0 && (before.Due < 0 || before.Counter != next.Counter) {
			begun, counter = now, next.Counter
		}
		if out {
			same(t, "for the counter", counter, m.Ballot.Counter)
			same(t, "not earlier", now >= begun+timers.Wait(counter), true)
			m.Ballot.Counter++
		}
		timer = next
	}
	same(t, "often", m.Ballot.Counter > 10, true)
}
