package monitor_test

import (
	"fmt"
	"math"
	"math/rand"
	"testing"

	"trustquorum/api"
	"trustquorum/monitor"
	"trustquorum/nodeset"
	"trustquorum/participant"
	"trustquorum/scenario"
)

func same[T comparable](t *testing.T, name string, got, want T) {
	t.Helper()
	if got != want {
		t.Errorf("%s: got %v, want %v", name, got, want)
	}
}

func trust(k int, nodes ...int) api.Trust { return api.Trust{Threshold: k, Nodes: nodes} }

func of(n int, v api.Value) api.Ballot { return api.Ballot{Counter: n, Value: v} }

var (
	none  api.Ballot
	three = trust(2, 0, 1, 2)
)

// uniform is a configuration of n members with the threshold k.
func uniform(n, k int) api.Config {
	var c api.Config
	for range n {
		c.Members = append(c.Members, api.Member{Declared: true, Trust: trust(k, nodeset.Nodes(1<<n-1)...)})
	}
	return c
}

// sees is a sighting of an envelope.
func sees(e api.Envelope) api.Sighting {
	return api.Sighting{From: e.Node, Letter: api.Letter{Kind: api.LetterEnvelope, Slot: e.Slot, Envelope: e}}
}

// votes is an envelope that votes for a ballot.
func votes(node, slot, seq int, b api.Ballot) api.Envelope {
	return api.Envelope{Node: node, Slot: slot, Seq: seq, Trust: three, Kind: api.KindPrepare, Ballot: b}
}

func external(node, slot, seq int, v api.Value) api.Envelope {
	return api.Envelope{Node: node, Slot: slot, Seq: seq, Trust: three, Kind: api.KindExternal, Ballot: of(1, v), Low: 1, High: 1}
}

func list(l ...api.Envelope) []api.Sighting {
	var s []api.Sighting
	for _, e := range l {
		s = append(s, sees(e))
	}
	return s
}

func prefer(node, slot int, v api.Value) api.Step {
	return api.Step{Kind: api.StepPrefer, Node: node, Slot: slot, Value: v}
}

func tick(n int) api.Step { return api.Step{Kind: api.StepTick, Count: n} }

// P44.1
func TestWatch(t *testing.T) {
	c := uniform(4, 3)
	l := []api.Step{prefer(0, 1, "a"), prefer(1, 1, "b"), prefer(2, 5, "c"), {Kind: api.StepStop, Node: 1}, tick(3)}
	w, _, _ := scenario.Run(c, 8, l)
	var want []api.Sighting
	for _, k := range []int{0, 2} {
		for _, x := range participant.Letters(w.Nodes[k]) {
			want = append(want, api.Sighting{Time: 3, From: k, Letter: x})
		}
	}
	same(t, "Watch", fmt.Sprint(monitor.Watch(w, 13)), fmt.Sprint(want))
	same(t, "Watch", fmt.Sprint(monitor.Watch(w, 1023)), fmt.Sprint(want))
	same(t, "stopped or ill", len(monitor.Watch(w, 10)), 0)
	same(t, "nobody", len(monitor.Watch(w, 0)), 0)
	for _, s := range []int{-1, 1024, math.MinInt, math.MaxInt} {
		same(t, "no set", len(monitor.Watch(w, s)), 0)
	}
	same(t, "not right", len(monitor.Watch(api.World{}, 1)), 0)
	got := monitor.Watch(w, 1)
	got[0].Letter.Nomination.Trust.Nodes[0] = 9
	same(t, "no shared memory", scenario.Check(w), true)
}

// P44.1
func TestRecord(t *testing.T) {
	c := uniform(4, 3)
	l := []api.Step{prefer(0, 1, "a"), tick(1), prefer(1, 1, "b"), tick(2)}
	var want []api.Sighting
	w, _ := scenario.New(c, 8)
	for _, s := range l {
		w, _ = scenario.Do(w, s)
		want = append(want, monitor.Watch(w, 3)...)
	}
	seen, end, e := monitor.Record(c, 8, l, 3)
	same(t, "Record", fmt.Sprint(seen, end, e), fmt.Sprint(want, w, 0))
	seen, end, e = monitor.Record(c, 8, append(l, prefer(3, 1, "a"), tick(1)), 3)
	same(t, "an error", fmt.Sprint(seen, end, e), fmt.Sprint(want, w, api.ErrScript))
	seen, end, e = monitor.Record(c, 16, l, 3)
	same(t, "no world", fmt.Sprint(seen, end, e), fmt.Sprint([]int{}, api.World{}, api.ErrInvalid))
	first, _ := scenario.New(c, 8)
	seen, end, e = monitor.Record(c, 8, make([]api.Step, 301), 3)
	same(t, "too many", fmt.Sprint(seen, end, e), fmt.Sprint([]int{}, first, api.ErrLimit))
	_, _, e = monitor.Record(c, 8, make([]api.Step, 300), 3)
	same(t, "not too many", e, api.ErrScript)
}

// P44.2: what counts.
func TestCounts(t *testing.T) {
	good := external(1, 1, 5, "a")
	for name, f := range map[string]func(*api.Sighting){
		"From":      func(s *api.Sighting) { s.From = 2 },
		"Kind":      func(s *api.Sighting) { s.Letter.Kind = api.LetterNomination },
		"no Kind":   func(s *api.Sighting) { s.Letter.Kind = 0 },
		"not valid": func(s *api.Sighting) { s.Letter.Envelope.Seq = 0 },
		"no node":   func(s *api.Sighting) { s.From, s.Letter.Envelope.Node = 10, 10 },
	} {
		s := sees(good)
		f(&s)
		l := []api.Sighting{s, s}
		l[1].Letter.Envelope.Low, l[1].Letter.Envelope.High = 2, 2
		e, ok := monitor.Newest(l, 1, 1)
		same(t, name, fmt.Sprint(e, ok), fmt.Sprint(api.Envelope{}, false))
		same(t, name, len(monitor.External(l))+len(monitor.TwoFaced(l))+len(monitor.Report(l)), 0)
		_, ok = monitor.Stuck(l, 1, 1)
		same(t, name, ok, false)
	}
	s := sees(good)
	s.Time, s.Letter.Slot = -7, 99
	same(t, "the rest does not matter", len(monitor.External([]api.Sighting{s})), 1)
}

// P44.2
func TestNewest(t *testing.T) {
	l := list(votes(1, 1, 4, of(1, "a")), votes(1, 1, 9, of(2, "a")), votes(1, 1, 9, of(3, "a")), votes(1, 2, 20, of(4, "a")), votes(2, 1, 30, of(5, "a")), votes(1, 1, 7, of(6, "a")))
	for _, c := range []struct{ node, slot, counter int }{{1, 1, 2}, {1, 2, 4}, {2, 1, 5}} {
		e, ok := monitor.Newest(l, c.node, c.slot)
		same(t, "Newest", fmt.Sprint(e.Ballot.Counter, ok), fmt.Sprint(c.counter, true))
		e.Trust.Nodes[0] = 9
	}
	same(t, "no shared memory", l[1].Letter.Envelope.Trust.Nodes[0], 0)
	for _, c := range [][2]int{{2, 2}, {0, 1}, {-1, 1}, {1, -1}} {
		e, ok := monitor.Newest(l, c[0], c[1])
		same(t, "none", fmt.Sprint(e, ok), fmt.Sprint(api.Envelope{}, false))
	}
}

// P44.2
func TestFindings(t *testing.T) {
	l := list(external(2, 1, 1, "z"), votes(1, 7, 1, of(1, "a")), external(1, 7, 2, "b"), external(1, 7, 1, "c"), external(1, 3, 2, "d"), external(0, 9, 2, "e"), votes(3, 1, 1, of(1, "a")))
	same(t, "External", fmt.Sprint(monitor.External(l)), "[{0 9 1 e []} {1 3 1 d []} {1 7 1 b []} {2 1 1 z []}]")
	same(t, "TwoFaced", fmt.Sprint(monitor.TwoFaced(l)), "[{1 7 3  []}]")
	base := votes(4, 2, 6, of(3, "b"))
	base.Prepared, base.Prime, base.High = of(3, "b"), of(2, "a"), 3
	for name, f := range map[string]func(*api.Envelope){
		"Trust":    func(e *api.Envelope) { e.Trust = trust(1, 0) },
		"Kind":     func(e *api.Envelope) { e.Kind, e.Prime, e.Low = api.KindCommit, none, 1 },
		"Ballot":   func(e *api.Envelope) { e.Ballot.Counter = 4 },
		"Prepared": func(e *api.Envelope) { e.Prepared.Counter = 4 },
		"Prime":    func(e *api.Envelope) { e.Prime.Counter = 1 },
		"Low":      func(e *api.Envelope) { e.Low = 3 },
		"High":     func(e *api.Envelope) { e.High = 2 },
	} {
		e := base
		f(&e)
		same(t, name, fmt.Sprint(monitor.TwoFaced(list(base, base, e))), "[{4 2 3  []}]")
		e.Seq = 7
		same(t, name+", another number", len(monitor.TwoFaced(list(base, base, e))), 0)
		e.Seq, e.Slot = 6, 3
		same(t, name+", another slot", len(monitor.TwoFaced(list(base, base, e))), 0)
		e.Slot, e.Node = 2, 5
		same(t, name+", another node", len(monitor.TwoFaced(list(base, base, e))), 0)
	}
	same(t, "empty", len(monitor.External(nil))+len(monitor.TwoFaced(nil))+len(monitor.Report(nil)), 0)
}

// P44.3
func TestStuck(t *testing.T) {
	a := of(1, "a")
	with := func(e api.Envelope, x api.Trust) api.Envelope {
		e.Trust = x
		return e
	}
	prepared := votes(0, 1, 1, a)
	prepared.Prepared = a
	four := trust(3, 0, 1, 2, 3)
	for name, c := range map[string]struct {
		l     []api.Sighting
		ok    bool
		needs string
	}{
		"the example":          {list(votes(0, 1, 1, a)), true, "[]"},
		"needs one of two":     {list(votes(0, 1, 1, a), votes(1, 1, 1, of(1, "b")), votes(2, 1, 1, of(1, "b"))), true, "[2 4]"},
		"one is enough":        {list(votes(0, 1, 1, a), votes(1, 1, 1, a), votes(2, 1, 1, of(1, "b"))), true, "[0]"},
		"needs the other one":  {list(votes(0, 1, 1, a), votes(2, 1, 1, of(1, "b"))), true, "[4]"},
		"needs two":            {list(with(votes(0, 1, 1, a), four), with(votes(1, 1, 1, of(1, "b")), four), with(votes(2, 1, 1, of(1, "b")), four), with(votes(3, 1, 1, of(1, "b")), four)), true, "[6 10 12]"},
		"one votes, needs one": {list(with(votes(0, 1, 1, a), four), with(votes(1, 1, 1, a), four), with(votes(2, 1, 1, of(1, "b")), four), with(votes(3, 1, 1, of(1, "b")), four)), true, "[4 8]"},
		"accepts count":        {list(with(votes(0, 1, 1, a), four), with(api.Envelope{Node: 1, Slot: 1, Seq: 1, Kind: api.KindPrepare, Ballot: of(1, "c"), Prepared: of(2, "a")}, four), with(votes(2, 1, 1, of(1, "b")), four)), true, "[4]"},
		"whom others need":     {list(with(votes(0, 1, 1, a), trust(1, 1)), with(votes(1, 1, 1, of(1, "b")), trust(1, 5)), with(votes(5, 1, 1, of(1, "b")), trust(1, 5))), true, "[34]"},
		"the least sets":       {list(with(votes(0, 1, 1, a), trust(1, 1, 2)), with(votes(1, 1, 1, of(1, "b")), trust(1, 1)), with(votes(2, 1, 1, of(1, "b")), trust(1, 1))), true, "[2]"},
		"as numbers":           {list(with(votes(0, 1, 1, a), api.Trust{Threshold: 1, Nodes: []int{4}, Inner: []api.Trust{trust(2, 1, 2)}}), with(votes(1, 1, 1, of(1, "b")), trust(1, 1)), with(votes(2, 1, 1, of(1, "b")), trust(1, 2)), with(votes(4, 1, 1, of(1, "b")), trust(1, 4))), true, "[6 16]"},
		"the newest counts":    {list(votes(0, 1, 1, of(1, "q")), votes(0, 1, 2, a), votes(1, 1, 1, a), votes(1, 1, 2, of(1, "b"))), true, "[2]"},
		"alone":                {list(with(votes(0, 1, 1, a), trust(1, 0))), true, "[0]"},
		"it has accepted":      {list(prepared), false, ""},
		"external":             {list(external(0, 1, 1, "a")), false, ""},
		"committed":            {list(api.Envelope{Node: 0, Slot: 1, Seq: 1, Trust: three, Kind: api.KindCommit, Ballot: a, Prepared: a, Low: 1, High: 1}), false, ""},
		"not seen":             {list(votes(1, 1, 1, a)), false, ""},
		"another slot":         {list(votes(0, 2, 1, a)), false, ""},
	} {
		f, ok := monitor.Stuck(c.l, 0, 1)
		want := fmt.Sprint(api.Finding{}, false)
		if c.ok {
			want = "{0 1 2 a " + c.needs + "} true"
		}
		same(t, name, fmt.Sprint(f, ok), want)
	}
	for _, at := range [][2]int{{-1, 1}, {10, 1}, {0, -1}, {math.MaxInt, 1}} {
		f, ok := monitor.Stuck(list(votes(0, 1, 1, a)), at[0], at[1])
		same(t, "none", fmt.Sprint(f, ok), fmt.Sprint(api.Finding{}, false))
	}
}

// P44.4
func TestReport(t *testing.T) {
	a := of(1, "a")
	l := list(votes(2, 1, 1, a), external(1, 3, 1, "b"), votes(0, 2, 1, a), votes(0, 1, 1, a), votes(0, 1, 1, of(2, "b")), external(0, 4, 1, "c"))
	same(t, "Report", fmt.Sprint(monitor.Report(l)), "[{0 4 1 c []} {1 3 1 b []} {0 1 3  []} {0 1 2 a [0]} {0 2 2 a []} {2 1 2 a [0]}]")
}

// The consequences of the chapter: what is said of a part is true of the run.
func TestConsequences(t *testing.T) {
	r := rand.New(rand.NewSource(44))
	found := 0
	for range 50 {
		n := 3 + r.Intn(2)
		c := uniform(n, n-1)
		ill := 0
		if r.Intn(2) == 0 {
			ill = 1 << r.Intn(n)
		}
		w, _ := scenario.New(c, ill)
		var l []api.Step
		for range 40 {
			k, v := r.Intn(n), string(rune('a'+r.Intn(3)))
			e := external(k, 1, 1+r.Intn(9), v)
			steps := []api.Step{prefer(k, 1, v), prefer(k, 2, v), tick(1), tick(1), tick(2), {Kind: api.StepShow, Node: k, To: r.Intn(n), Letter: api.Letter{Kind: api.LetterEnvelope, Slot: 1, Envelope: e}}, {Kind: api.StepPart, Parts: []int{1, 6}}, {Kind: api.StepPart}}
			if r.Intn(20) == 0 {
				steps = []api.Step{{Kind: api.StepDeclare, Node: k, Trust: trust(n, nodeset.Nodes(1<<n-1)...)}}
			}
			s := steps[r.Intn(len(steps))]
			if next, e := scenario.Do(w, s); e == api.OK {
				w, l = next, append(l, s)
			}
		}
		seen, end, e := monitor.Record(c, ill, l, r.Intn(1<<n))
		same(t, "Record", e, api.OK)
		decided := map[[2]int]api.Value{}
		for _, o := range scenario.Outcomes(end) {
			decided[[2]int{o.Node, o.Slot}] = o.Value
		}
		for _, f := range monitor.External(seen) {
			found++
			same(t, "External", f.Value, decided[[2]int{f.Node, f.Slot}])
		}
		same(t, "TwoFaced", len(monitor.TwoFaced(seen)), 0)
	}
	same(t, "some", found > 20, true)
}
