package scenario_test

import (
	"fmt"
	"math"
	"math/rand"
	"strings"
	"testing"

	"trustquorum/api"
	"trustquorum/configuration"
	"trustquorum/network"
	"trustquorum/nodeset"
	"trustquorum/participant"
	"trustquorum/scenario"
)

func same[T comparable](t *testing.T, name string, got, want T) {
	t.Helper()
	if got != want {
		t.Errorf("%s: got %v, want %v", name, got, want)
	}
}

func trust(k int, nodes ...int) api.Trust { return api.Trust{Threshold: k, Nodes: nodes} }

// uniform is a configuration of n members with the threshold k.
func uniform(n, k int) api.Config {
	var c api.Config
	for range n {
		c.Members = append(c.Members, api.Member{Declared: true, Trust: trust(k, nodeset.Nodes(1<<n-1)...)})
	}
	return c
}

func begin(c api.Config, ill int) api.World {
	w, e := scenario.New(c, ill)
	if e != api.OK {
		panic(e)
	}
	return w
}

func tick(n int) api.Step { return api.Step{Kind: api.StepTick, Count: n} }
func propose(node, slot int, v api.Value) api.Step {
	return api.Step{Kind: api.StepPropose, Node: node, Slot: slot, Value: v}
}
func prefer(node, slot int, v api.Value) api.Step {
	return api.Step{Kind: api.StepPrefer, Node: node, Slot: slot, Value: v}
}
func stop(node int) api.Step { return api.Step{Kind: api.StepStop, Node: node} }
func declare(node int, x api.Trust) api.Step {
	return api.Step{Kind: api.StepDeclare, Node: node, Trust: x}
}
func part(parts ...int) api.Step { return api.Step{Kind: api.StepPart, Parts: parts} }
func delay(node, to, n int) api.Step {
	return api.Step{Kind: api.StepDelay, Node: node, To: to, Count: n}
}

// lie shows an external envelope.
func lie(node, to, slot int, v api.Value) api.Step {
	e := api.Envelope{Node: node, Slot: slot, Seq: 1, Trust: trust(1, node), Kind: api.KindExternal, Ballot: api.Ballot{Counter: 1, Value: v}, Low: 1, High: 1}
	return api.Step{Kind: api.StepShow, Node: node, To: to, Letter: api.Letter{Kind: api.LetterEnvelope, Slot: slot, Envelope: e}}
}

// do carries out steps that have no error.
func do(t *testing.T, w api.World, l ...api.Step) api.World {
	t.Helper()
	for _, s := range l {
		next, e := scenario.Do(w, s)
		same(t, fmt.Sprint(s), e, api.OK)
		w = next
	}
	return w
}

// P32.1
func TestNew(t *testing.T) {
	w, e := scenario.New(uniform(3, 2), 4)
	same(t, "New", e, api.OK)
	want := api.World{Ill: 4}
	for k := range 3 {
		p, _ := participant.New(k, trust(2, 0, 1, 2))
		want.Nodes = append(want.Nodes, p)
		want.Trusts = append(want.Trusts, []api.Trust{trust(2, 0, 1, 2)})
	}
	same(t, "New", fmt.Sprint(w), fmt.Sprint(want))
	same(t, "Check", scenario.Check(w), true)
	w.Trusts[0][0].Nodes[0], w.Nodes[1].Trust.Nodes[1] = 8, 8
	same(t, "no shared memory", fmt.Sprint(w.Nodes[0].Trust, w.Trusts[1]), fmt.Sprint(trust(2, 0, 1, 2), []api.Trust{trust(2, 0, 1, 2)}))
	missing, _, _ := configuration.Parse("0: 1 of (0)\n1: -")
	for _, c := range []struct {
		c   api.Config
		ill int
		e   api.Errno
	}{
		{api.Config{Members: make([]api.Member, 11)}, -1, api.ErrLimit},
		{uniform(2, 3), -1, api.ErrThreshold},
		{missing, -1, api.ErrMissing},
		{api.Config{}, 0, api.ErrInvalid},
		{uniform(2, 1), 4, api.ErrInvalid},
		{uniform(2, 1), -1, api.ErrInvalid},
		{uniform(2, 1), math.MinInt, api.ErrInvalid},
	} {
		w, e := scenario.New(c.c, c.ill)
		same(t, "New", fmt.Sprint(w, e), fmt.Sprint(api.World{}, c.e))
		w, n, e := scenario.Run(c.c, c.ill, make([]api.Step, 301))
		same(t, "Run", fmt.Sprint(w, n, e), fmt.Sprint(api.World{}, 0, c.e))
	}
}

// P32.1: what is not right.
func TestCheck(t *testing.T) {
	base := func() api.World {
		w := begin(uniform(3, 2), 4)
		return do(t, w, propose(0, 1, "a"), declare(1, trust(1, 1)), stop(1), tick(2))
	}
	same(t, "right", scenario.Check(base()), true)
	same(t, "Down", scenario.Down(base()), 6)
	for name, f := range map[string]func(*api.World){
		"negative Time":   func(w *api.World) { w.Time = -1 },
		"Time":            func(w *api.World) { w.Time = 201 },
		"no nodes":        func(w *api.World) { w.Nodes, w.Trusts, w.Ill = nil, nil, 0 },
		"Node":            func(w *api.World) { w.Nodes[0].Node = 1 },
		"participant":     func(w *api.World) { w.Nodes[0].Slots[0].Round = 0 },
		"Ill":             func(w *api.World) { w.Ill = 8 },
		"negative Ill":    func(w *api.World) { w.Ill = -1 },
		"network":         func(w *api.World) { w.Net.Next = 0 },
		"missing Trusts":  func(w *api.World) { w.Trusts = w.Trusts[:2] },
		"more Trusts":     func(w *api.World) { w.Trusts = append(w.Trusts, w.Trusts[0]) },
		"no Trusts":       func(w *api.World) { w.Trusts[0] = nil },
		"not the present": func(w *api.World) { w.Trusts[0] = []api.Trust{trust(1, 0)} },
		"twice":           func(w *api.World) { w.Trusts[0] = append(w.Trusts[0], w.Trusts[0][0]) },
		"not valid":       func(w *api.World) { w.Trusts[0] = append(w.Trusts[0], trust(0)) },
		"too many": func(w *api.World) {
			w.Trusts[0] = append(w.Trusts[0], trust(1, 0), trust(1, 1), trust(1, 2), trust(1, 0, 1))
		},
		"eleven": func(w *api.World) {
			for k := 3; k < 11; k++ {
				w.Nodes, w.Trusts = append(w.Nodes, api.Participant{Node: k, Trust: trust(1, 0)}), append(w.Trusts, []api.Trust{trust(1, 0)})
			}
		},
	} {
		w := base()
		f(&w)
		same(t, name, scenario.Check(w), false)
		same(t, name, scenario.Down(w), 0)
		same(t, name, len(scenario.Outcomes(w)), 0)
		want := fmt.Sprint(api.World{}, api.ErrState)
		same(t, name, fmt.Sprint(scenario.Do(w, tick(0))), want)
		same(t, name, fmt.Sprint(scenario.Tick(w)), want)
		same(t, name, fmt.Sprint(scenario.Quiet(w, -1)), want)
	}
	w := base()
	w.Trusts[0] = append(w.Trusts[0], trust(1, 0), trust(1, 1), trust(1, 2))
	same(t, "four trusts", scenario.Check(w), true)
	same(t, "ten", scenario.Check(begin(uniform(10, 7), 1023)), true)
}

// P32.2: a tick, done by hand.
func TestTick(t *testing.T) {
	w := do(t, begin(uniform(4, 3), 8), propose(0, 1, "a"), propose(1, 1, "b"), propose(0, 2, "c"), prefer(2, 3, "d"), delay(0, 1, 3), delay(2, 1, 2), lie(3, 1, 5, "x"), lie(3, 2, 5, "x"), part(7, 8))
	for range 12 {
		next, e := scenario.Tick(w)
		same(t, "Tick", e, api.OK)
		want := w
		want.Time++
		arrive, net := network.Due(w.Net, want.Time)
		want.Nodes = append([]api.Participant{}, w.Nodes...)
		for _, p := range arrive {
			if q, e := participant.Hear(want.Nodes[p.To], p.Letter, want.Time); e == api.OK && p.To != 3 {
				want.Nodes[p.To] = q
			}
		}
		for k := range 3 {
			want.Nodes[k], _ = participant.Tick(want.Nodes[k], want.Time)
		}
		for k := range 3 {
			for _, l := range participant.Letters(want.Nodes[k]) {
				for to := range 4 {
					if sent, e := network.Send(net, k, to, l, want.Time); e == api.OK {
						net = sent
					}
				}
			}
		}
		want.Net = net
		same(t, "Tick", fmt.Sprint(next), fmt.Sprint(want))
		same(t, "right", scenario.Check(next), true)
		w = next
	}
	same(t, "the ill one hears nothing", len(w.Nodes[3].Slots), 0)
	w.Time = api.MaxTicks
	next, e := scenario.Tick(w)
	same(t, "the end", fmt.Sprint(next, e), fmt.Sprint(api.World{}, api.ErrLimit))
	full := begin(uniform(2, 1), 0)
	for i := range 4000 {
		full.Net.Parcels = append(full.Net.Parcels, api.Parcel{Due: 9, From: 0, To: 1, Number: i})
	}
	full.Net.Next = 4000
	full = do(t, full, propose(0, 1, "a"), tick(1))
	same(t, "no room", len(full.Net.Parcels), 4000)
	stranger := begin(uniform(2, 1), 0)
	stranger.Net = api.Network{Next: 1, Parcels: []api.Parcel{{Due: 1, From: 0, To: 7}}}
	same(t, "a parcel for nobody", len(do(t, stranger, tick(1)).Net.Parcels), 0)
}

// P32.3: what steps do.
func TestDo(t *testing.T) {
	w := do(t, begin(uniform(4, 3), 8), tick(3))
	next := do(t, w, propose(1, 2, "a"))
	p, _ := participant.Begin(w.Nodes[1], 2, "a", 3)
	same(t, "propose", fmt.Sprint(next.Nodes[1]), fmt.Sprint(p))
	next = do(t, w, prefer(1, 2, "a"))
	p, _ = participant.Prefer(w.Nodes[1], 2, "a", 3)
	same(t, "prefer", fmt.Sprint(next.Nodes[1]), fmt.Sprint(p))
	next = do(t, w, stop(1))
	same(t, "stop", fmt.Sprint(next.Nodes[1]), fmt.Sprint(participant.Stop(w.Nodes[1])))
	x := trust(2, 0, 1)
	next = do(t, w, declare(1, x), declare(1, trust(1, 0)), declare(1, x))
	p, _ = participant.Declare(w.Nodes[1], x)
	same(t, "declare", fmt.Sprint(next.Nodes[1]), fmt.Sprint(p))
	same(t, "the trusts", fmt.Sprint(next.Trusts[1]), fmt.Sprint([]api.Trust{trust(3, 0, 1, 2, 3), x, trust(1, 0)}))
	next.Trusts[1][1].Nodes[0] = 8
	same(t, "no shared memory", fmt.Sprint(x, next.Nodes[1].Trust), fmt.Sprint(trust(2, 0, 1), trust(2, 0, 1)))
	next = do(t, w, lie(3, 1, 7, "x"))
	net, _ := network.Send(w.Net, 3, 1, lie(3, 1, 7, "x").Letter, 3)
	same(t, "show", fmt.Sprint(next.Net), fmt.Sprint(net))
	n := api.Nomination{Node: 3, Seq: 1, Trust: trust(1, 3)}
	next = do(t, w, api.Step{Kind: api.StepShow, Node: 3, To: 1, Letter: api.Letter{Kind: api.LetterNomination, Slot: 1, Nomination: n}})
	same(t, "show", len(next.Net.Parcels), 1)
	next = do(t, w, part(1, 6))
	same(t, "part", fmt.Sprint(next.Net.Parts), "[1 6]")
	next = do(t, next, part())
	same(t, "part", fmt.Sprint(next.Net.Parts), "[]")
	next = do(t, w, delay(1, 9, 20))
	same(t, "delay", next.Net.Delays[19], 20)
	one, _ := scenario.Tick(w)
	two, _ := scenario.Tick(one)
	same(t, "tick", fmt.Sprint(do(t, w, tick(2))), fmt.Sprint(two))
	same(t, "all ticks", do(t, begin(uniform(1, 1), 0), tick(200)).Time, 200)
}

// P32.3: errors of steps.
func TestDoErrors(t *testing.T) {
	w := do(t, begin(uniform(4, 3), 8), stop(2), propose(0, 1, "a"), declare(1, trust(1, 0)), declare(1, trust(1, 1)), declare(1, trust(1, 2)), tick(2))
	long := strings.Repeat("x", api.MaxBytes+1)
	forged := lie(3, 1, 7, "x")
	forged.Letter.Envelope.Node = 0
	forgedToo := api.Step{Kind: api.StepShow, Node: 3, To: 1, Letter: api.Letter{Kind: api.LetterNomination, Slot: 1, Envelope: api.Envelope{Node: 3}}}
	kind := lie(3, 1, 7, "x")
	kind.Letter.Kind = 3
	for name, c := range map[string]struct {
		s api.Step
		e api.Errno
	}{
		"no kind":              {api.Step{Node: 99}, api.ErrScript},
		"another kind":         {api.Step{Kind: 9, Node: -1}, api.ErrScript},
		"propose, node":        {propose(4, 1, "a"), api.ErrNode},
		"propose, negative":    {propose(-1, 1, "a"), api.ErrNode},
		"propose, ill":         {propose(3, 0, long), api.ErrScript},
		"propose, again":       {propose(0, 1, "a"), api.ErrDuplicate},
		"propose, slot":        {propose(0, 0, "a"), api.ErrSlot},
		"propose, value":       {propose(0, 2, long), api.ErrLimit},
		"propose, stopped":     {propose(2, 0, long), api.OK},
		"prefer, node":         {prefer(4, 1, "a"), api.ErrNode},
		"prefer, ill":          {prefer(3, 1, "a"), api.ErrScript},
		"prefer, value":        {prefer(0, 1, ""), api.ErrInvalid},
		"stop, node":           {stop(4), api.ErrNode},
		"stop, ill":            {stop(3), api.ErrScript},
		"stop, stopped":        {stop(2), api.OK},
		"tick, none":           {tick(0), api.ErrScript},
		"tick, negative":       {tick(-1), api.ErrScript},
		"tick, too many":       {tick(201), api.ErrScript},
		"tick, to the end":     {tick(199), api.ErrLimit},
		"declare, node":        {declare(4, trust(0)), api.ErrNode},
		"declare, ill":         {declare(3, trust(0)), api.ErrScript},
		"declare, stopped":     {declare(2, trust(0)), api.ErrScript},
		"declare, not valid":   {declare(1, trust(0)), api.ErrInvalid},
		"declare, no member":   {declare(1, trust(1, 4)), api.ErrInvalid},
		"declare, too many":    {declare(1, trust(2, 0, 1)), api.ErrLimit},
		"declare, an old one":  {declare(1, trust(1, 0)), api.OK},
		"show, node":           {lie(4, 1, 1, "x"), api.ErrNode},
		"show, not ill":        {lie(0, 1, 1, "x"), api.ErrScript},
		"show, To":             {lie(3, 4, 1, "x"), api.ErrScript},
		"show, negative To":    {lie(3, -1, 1, "x"), api.ErrScript},
		"show, to itself":      {lie(3, 3, 1, "x"), api.ErrScript},
		"show, forged":         {forged, api.ErrForge},
		"show, forged, too":    {forgedToo, api.ErrForge},
		"show, kind":           {kind, api.ErrInvalid},
		"part":                 {part(0), api.ErrInvalid},
		"part, not disjoint":   {part(3, 6), api.ErrInvalid},
		"delay, node":          {delay(4, 1, 1), api.ErrNode},
		"delay, To":            {delay(1, 10, 1), api.ErrNode},
		"delay, ticks":         {delay(1, 2, 21), api.ErrInvalid},
		"delay, negative":      {delay(1, 2, -1), api.ErrInvalid},
		"delay, ill":           {delay(3, 2, 5), api.OK},
		"delay, great numbers": {delay(math.MaxInt, math.MinInt, 5), api.ErrNode},
	} {
		before := fmt.Sprint(w)
		got, e := scenario.Do(w, c.s)
		same(t, name, e, c.e)
		if e != api.OK {
			same(t, name, fmt.Sprint(got), fmt.Sprint(api.World{}))
		} else {
			same(t, name, scenario.Check(got), true)
		}
		same(t, "the argument stays", fmt.Sprint(w), before)
	}
	w.Net.Next = 1000000000
	_, e := scenario.Do(w, lie(3, 1, 7, "x"))
	same(t, "show, no room", e, api.ErrLimit)
}

// P32.4 and P32.5
func TestRun(t *testing.T) {
	c := uniform(4, 3)
	l := []api.Step{prefer(0, 1, "a"), prefer(1, 1, "a"), prefer(2, 1, "a"), prefer(3, 1, "a"), tick(12)}
	w, n, e := scenario.Run(c, 0, l)
	same(t, "the example", fmt.Sprint(n, e), "5 0")
	same(t, "the example", fmt.Sprint(scenario.Outcomes(w)), "[{0 1 a} {1 1 a} {2 1 a} {3 1 a}]")
	same(t, "the same", fmt.Sprint(w), fmt.Sprint(do(t, begin(c, 0), l...)))
	w, n, e = scenario.Run(c, 0, append(l, prefer(0, 1, ""), tick(1)))
	same(t, "an error", fmt.Sprint(n, e, w.Time), fmt.Sprint(5, api.ErrInvalid, 12))
	w, n, e = scenario.Run(c, 8, make([]api.Step, 301))
	same(t, "too many", fmt.Sprint(w, n, e), fmt.Sprint(begin(c, 8), 0, api.ErrLimit))
	w, n, e = scenario.Run(c, 8, make([]api.Step, 300))
	same(t, "not too many", fmt.Sprint(w, n, e), fmt.Sprint(begin(c, 8), 0, api.ErrScript))
	alone := do(t, begin(uniform(3, 1), 4), declare(1, trust(1, 1)), declare(0, trust(1, 0)), prefer(1, 5, "b"), prefer(0, 9, "c"), prefer(0, 2, "a"), stop(0))
	same(t, "Outcomes", fmt.Sprint(scenario.Outcomes(alone)), "[{0 2 a} {0 9 c} {1 5 b}]")
	ill := begin(uniform(1, 1), 0)
	ill = do(t, ill, prefer(0, 1, "a"))
	same(t, "decided", len(scenario.Outcomes(ill)), 1)
	ill.Ill = 1
	same(t, "ill ones do not count", len(scenario.Outcomes(ill)), 0)
}

// P32.4
func TestQuiet(t *testing.T) {
	w := do(t, begin(uniform(4, 3), 0), prefer(0, 1, "a"), part(1, 14), delay(0, 1, 7), tick(5))
	got, e := scenario.Quiet(w, 0)
	want := w
	want.Net = network.Heal(w.Net)
	same(t, "none", fmt.Sprint(got, e), fmt.Sprint(want, 0))
	got, e = scenario.Quiet(w, 3)
	same(t, "three", fmt.Sprint(got, e), fmt.Sprint(do(t, want, tick(3)), 0))
	_, e = scenario.Quiet(w, 195)
	same(t, "to the end", e, api.OK)
	for ticks, e := range map[int]api.Errno{-1: api.ErrInvalid, math.MinInt: api.ErrInvalid, 196: api.ErrLimit, math.MaxInt: api.ErrLimit} {
		got, code := scenario.Quiet(w, ticks)
		same(t, fmt.Sprint(ticks), fmt.Sprint(got, code), fmt.Sprint(api.World{}, e))
	}
}

// The consequences of the chapter, with random scripts.
func TestConsequences(t *testing.T) {
	r := rand.New(rand.NewSource(32))
	decided := 0
	for round := range 30 {
		ill := 0
		if round%2 == 0 {
			ill = 8
		}
		w := begin(uniform(4, 3), ill)
		for range 40 {
			k := r.Intn(4)
			l := []api.Step{tick(1 + r.Intn(3)), propose(k, 1+r.Intn(2), "p"), prefer(k, 1+r.Intn(2), string(rune('a'+r.Intn(2)))), part(1+r.Intn(3), 12), part(), delay(k, r.Intn(4), r.Intn(4)), lie(3, r.Intn(3), 1, "z"), tick(2), tick(1)}
			if r.Intn(30) == 0 {
				l = []api.Step{stop(k)}
			}
			next, e := scenario.Do(w, l[r.Intn(len(l))])
			if e != api.OK {
				continue
			}
			same(t, "right", scenario.Check(next), true)
			after := fmt.Sprint(scenario.Outcomes(next))
			values := map[int]api.Value{}
			for _, o := range scenario.Outcomes(w) {
				same(t, "stays decided", strings.Contains(after, fmt.Sprint(o)), true)
				if v, there := values[o.Slot]; there {
					same(t, "one value", o.Value, v)
				}
				values[o.Slot] = o.Value
			}
			w = next
		}
		decided += len(scenario.Outcomes(w))
	}
	same(t, "some decide", decided > 30, true)
}
