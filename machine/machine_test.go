package machine_test

import (
	"fmt"
	"math/rand"
	"strings"
	"testing"

	"trustquorum/api"
	"trustquorum/ballots"
	"trustquorum/envelopes"
	"trustquorum/machine"
	"trustquorum/nodeset"
)

func same[T comparable](t *testing.T, name string, got, want T) {
	t.Helper()
	if got != want {
		t.Errorf("%s: got %v, want %v", name, got, want)
	}
}

func trust(k int, nodes ...int) api.Trust { return api.Trust{Threshold: k, Nodes: nodes} }

func of(n int, v api.Value) api.Ballot { return api.Ballot{Counter: n, Value: v} }

var (
	none api.Ballot
	four = trust(3, 0, 1, 2, 3)
	long = strings.Repeat("x", api.MaxBytes)
)

// show writes the state of a machine.
func show(m api.Machine) string {
	b := func(x api.Ballot) string {
		if x == none {
			return "-"
		}
		return fmt.Sprint(x.Counter, x.Value)
	}
	return fmt.Sprint(m.Seq, " ", m.Phase, " ", b(m.Ballot), " ", b(m.Prepared), " ", b(m.Prime), " ", b(m.Confirmed), " ", m.Low, " ", m.High)
}

func fresh(node int, x api.Trust) api.Machine {
	m, e := machine.New(node, 1, x)
	if e != api.OK {
		panic(e)
	}
	return m
}

// envelope is a valid envelope of a node; the Seq is set where it is received.
func envelope(node, kind int, ballot, prepared, prime api.Ballot, low, high int) api.Envelope {
	return api.Envelope{Node: node, Slot: 1, Seq: 1, Trust: four, Kind: kind, Ballot: ballot, Prepared: prepared, Prime: prime, Low: low, High: high}
}

func prepares(node int, ballot, prepared, prime api.Ballot, low, high int) api.Envelope {
	return envelope(node, api.KindPrepare, ballot, prepared, prime, low, high)
}

func commits(node int, ballot, prepared api.Ballot, low, high int) api.Envelope {
	return envelope(node, api.KindCommit, ballot, prepared, none, low, high)
}

func externals(node int, ballot api.Ballot, low, high int) api.Envelope {
	return envelope(node, api.KindExternal, ballot, none, none, low, high)
}

// tester follows a machine.
type tester struct {
	t   *testing.T
	m   api.Machine
	seq int
}

// do takes the result of a change.
func (x *tester) do(m api.Machine, e api.Errno) func(want string) {
	x.t.Helper()
	same(x.t, "error", e, api.OK)
	same(x.t, "right", machine.Check(m), true)
	x.m = m
	return func(want string) {
		x.t.Helper()
		same(x.t, "state", show(m), want)
	}
}

// hear lets the machine receive an envelope, with a new number.
func (x *tester) hear(e api.Envelope, want string) {
	x.t.Helper()
	x.seq++
	e.Seq = x.seq
	before := fmt.Sprint(x.m)
	m, code := machine.Receive(x.m, e)
	same(x.t, "the argument stays", fmt.Sprint(x.m), before)
	x.do(m, code)(want)
}

// P27.1
func TestNew(t *testing.T) {
	m, e := machine.New(3, 7, four)
	same(t, "New", fmt.Sprint(m, e), fmt.Sprint(api.Machine{Node: 3, Slot: 7, Trust: four, Phase: api.PhasePrepare}, 0))
	same(t, "Check", machine.Check(m), true)
	_, ok := machine.Message(m)
	same(t, "no message", ok, false)
	for _, c := range []struct {
		node, slot int
		x          api.Trust
		e          api.Errno
	}{
		{-1, 0, trust(0), api.ErrNode},
		{10, 1, four, api.ErrNode},
		{0, 0, trust(0), api.ErrSlot},
		{0, -1, four, api.ErrSlot},
		{0, api.MaxSlot + 1, four, api.ErrSlot},
		{0, 1, trust(0), api.ErrInvalid},
		{0, 1, trust(1, 10), api.ErrInvalid},
	} {
		m, e := machine.New(c.node, c.slot, c.x)
		same(t, "New", fmt.Sprint(m, e), fmt.Sprint(api.Machine{}, c.e))
	}
	m, e = machine.New(9, api.MaxSlot, four)
	same(t, "limits", fmt.Sprint(machine.Check(m), e), "true 0")
	m.Trust.Nodes[0] = 7
	same(t, "no shared memory", four.Nodes[0], 0)
}

// full returns machines that are right, by phase.
func full(phase int) api.Machine {
	m := api.Machine{Node: 0, Slot: 1, Seq: 5, Trust: trust(3, 0, 1, 2, 3), Phase: phase, Proposed: "p", Heard: []api.Envelope{prepares(1, of(1, "a"), none, none, 0, 0), externals(3, of(1, "a"), 1, 1)}}
	m.Heard[0].Trust, m.Heard[1].Trust = trust(1, 1), trust(1, 3)
	switch phase {
	case api.PhasePrepare:
		m.Ballot, m.Prepared, m.Prime, m.Confirmed, m.Low = of(4, "b"), of(4, "b"), of(3, "a"), of(3, "b"), 3
	case api.PhaseCommit:
		m.Ballot, m.Prepared, m.Confirmed, m.Low, m.High = of(4, "b"), of(4, "b"), of(3, "b"), 2, 4
	case api.PhaseExternal:
		m.Ballot, m.Low, m.High = of(4, "b"), 2, 4
	}
	return m
}

// P27.1
func TestCheck(t *testing.T) {
	for phase, changes := range map[int]map[string]func(*api.Machine){
		api.PhasePrepare: {
			"none":                   func(m *api.Machine) {},
			"Seq 0 counts as 1":      func(m *api.Machine) { m.Seq = 0 },
			"the greatest Seq":       func(m *api.Machine) { m.Seq = 1000000 },
			"nothing proposed":       func(m *api.Machine) { m.Proposed = "" },
			"nothing heard":          func(m *api.Machine) { m.Heard = nil },
			"Confirmed, no value":    func(m *api.Machine) { m.Confirmed, m.Low = none, 0 },
			"Confirmed by Prime":     func(m *api.Machine) { m.Confirmed, m.Low = of(2, "c"), 0 },
			"Confirmed of Prime":     func(m *api.Machine) { m.Confirmed, m.Low = of(3, "a"), 0 },
			"Low 0":                  func(m *api.Machine) { m.Low = 0 },
			"Confirmed above Ballot": func(m *api.Machine) { m.Ballot, m.Low = of(1, "z"), 0 },
		},
		api.PhaseCommit: {
			"none":               func(m *api.Machine) {},
			"nothing confirmed":  func(m *api.Machine) { m.Confirmed = none },
			"Confirmed is great": func(m *api.Machine) { m.Confirmed = of(1000, "b") },
		},
		api.PhaseExternal: {
			"none":      func(m *api.Machine) {},
			"Confirmed": func(m *api.Machine) { m.Confirmed = of(7, "b") },
		},
	} {
		for name, change := range changes {
			m := full(phase)
			change(&m)
			same(t, fmt.Sprint(phase, name), machine.Check(m), true)
			e, ok := machine.Message(m)
			same(t, fmt.Sprint(phase, name), ok, true)
			same(t, fmt.Sprint(phase, name), envelopes.Valid(e), true)
		}
	}
	empty := fresh(0, four)
	for name, m := range broken(empty) {
		same(t, name, machine.Check(m), false)
		want := fmt.Sprint(api.Machine{}, api.ErrState)
		same(t, name, fmt.Sprint(machine.Propose(m, "")), want)
		same(t, name, fmt.Sprint(machine.Receive(m, api.Envelope{})), want)
		same(t, name, fmt.Sprint(machine.Timeout(m)), want)
		same(t, name, fmt.Sprint(machine.Declare(m, trust(0))), want)
		same(t, name, fmt.Sprint(machine.Advance(m)), fmt.Sprint(m))
		e, ok := machine.Message(m)
		same(t, name, fmt.Sprint(e, ok), fmt.Sprint(api.Envelope{}, false))
		v, ok := machine.Decided(m)
		same(t, name, fmt.Sprint(v, ok), "false")
	}
}

// broken has machines that are not right.
func broken(empty api.Machine) map[string]api.Machine {
	l := map[string]api.Machine{"zero": {}}
	add := func(name string, m api.Machine, change func(*api.Machine)) {
		change(&m)
		l[name] = m
	}
	add("empty, Phase", empty, func(m *api.Machine) { m.Phase = 2 })
	add("empty, Seq", empty, func(m *api.Machine) { m.Seq = 1 })
	add("empty, Prepared", empty, func(m *api.Machine) { m.Prepared = of(1, "a") })
	add("empty, Prime", empty, func(m *api.Machine) { m.Prime = of(1, "a") })
	add("empty, Confirmed", empty, func(m *api.Machine) { m.Confirmed = of(1, "a") })
	add("empty, Low", empty, func(m *api.Machine) { m.Low = 1 })
	add("empty, High", empty, func(m *api.Machine) { m.High = 1 })
	add("Node", empty, func(m *api.Machine) { m.Node = 10 })
	add("negative Node", empty, func(m *api.Machine) { m.Node = -1 })
	add("Slot", empty, func(m *api.Machine) { m.Slot = 0 })
	add("great Slot", empty, func(m *api.Machine) { m.Slot = api.MaxSlot + 1 })
	add("Trust", empty, func(m *api.Machine) { m.Trust = trust(0) })
	add("Proposed", empty, func(m *api.Machine) { m.Proposed = long + "x" })
	for phase := 1; phase <= 3; phase++ {
		name := fmt.Sprint(phase, " ")
		add(name+"Seq", full(phase), func(m *api.Machine) { m.Seq = -1 })
		add(name+"great Seq", full(phase), func(m *api.Machine) { m.Seq = 1000001 })
		add(name+"Phase", full(phase), func(m *api.Machine) { m.Phase = 4 })
		add(name+"Ballot", full(phase), func(m *api.Machine) { m.Ballot.Counter = 1001 })
		add(name+"zero Counter", full(phase), func(m *api.Machine) { m.Ballot.Counter = 0 })
		add(name+"Low", full(phase), func(m *api.Machine) { m.Low = 5 })
		add(name+"heard itself", full(phase), func(m *api.Machine) { m.Heard[0].Node = 0 })
		add(name+"heard twice", full(phase), func(m *api.Machine) { m.Heard[0].Node = 3 })
		add(name+"heard, disorder", full(phase), func(m *api.Machine) { m.Heard[0].Node = 5 })
		add(name+"heard, Slot", full(phase), func(m *api.Machine) { m.Heard[0].Slot = 2 })
		add(name+"heard, not valid", full(phase), func(m *api.Machine) { m.Heard[0].Seq = 0 })
		add(name+"Confirmed", full(phase), func(m *api.Machine) { m.Confirmed, m.Low = of(4, "a"), m.Low*(phase/2) })
		add(name+"Confirmed, Counter", full(phase), func(m *api.Machine) { m.Confirmed = of(api.Infinity, "b") })
	}
	add("1 Confirmed, not prepared", full(1), func(m *api.Machine) { m.Ballot.Counter, m.Confirmed = 9, of(5, "b") })
	add("1 High", full(1), func(m *api.Machine) { m.High = 3 })
	add("1 Prepared", full(1), func(m *api.Machine) { m.Prepared = of(2, "b") })
	add("2 Prime", full(2), func(m *api.Machine) { m.Prime = of(3, "a") })
	add("2 High", full(2), func(m *api.Machine) { m.High = 5 })
	add("2 Prepared", full(2), func(m *api.Machine) { m.Prepared = of(9, "a") })
	add("3 Prepared", full(3), func(m *api.Machine) { m.Prepared = of(4, "b") })
	add("3 Prime", full(3), func(m *api.Machine) { m.Prime = of(4, "b") })
	add("3 Low 0", full(3), func(m *api.Machine) { m.Low = 0 })
	return l
}

// P27.1
func TestMessage(t *testing.T) {
	for phase, want := range map[int]api.Envelope{
		1: prepares(0, of(4, "b"), of(4, "b"), of(3, "a"), 3, 3),
		2: commits(0, of(4, "b"), of(4, "b"), 2, 4),
		3: externals(0, of(4, "b"), 2, 4),
	} {
		want.Seq = 5
		m := full(phase)
		e, ok := machine.Message(m)
		same(t, "Message", fmt.Sprint(e, ok), fmt.Sprint(want, true))
		e.Trust.Nodes[0] = 9
		same(t, "no shared memory", m.Trust.Nodes[0], 0)
		v, ok := machine.Decided(m)
		same(t, "Decided", ok, phase == 3)
		same(t, "Decided", v, []api.Value{"", "", "", "b"}[phase])
		m.Seq = 0
		e, _ = machine.Message(m)
		same(t, "Seq 0 counts as 1", e.Seq, 1)
	}
	m := full(1)
	m.Ballot = of(4, "z")
	m.Low = 0
	e, _ := machine.Message(m)
	same(t, "Confirmed is not compatible", fmt.Sprint(e.Low, e.High), "0 0")
}

// P27.2
func TestPropose(t *testing.T) {
	x := &tester{t: t, m: fresh(0, four)}
	x.do(machine.Propose(x.m, "a"))("1 1 1a - - - 0 0")
	x.do(machine.Propose(x.m, "c"))("1 1 1a - - - 0 0")
	same(t, "Proposed", x.m.Proposed, "c")
	x.do(machine.Timeout(x.m))("2 1 2c - - - 0 0")
	for _, v := range []api.Value{"", long + "x"} {
		m, e := machine.Propose(x.m, v)
		same(t, "no value", fmt.Sprint(m, e), fmt.Sprint(api.Machine{}, api.ErrInvalid))
	}
	m, e := machine.Propose(x.m, long)
	same(t, "long", fmt.Sprint(machine.Check(m), e), "true 0")
	alone := &tester{t: t, m: fresh(0, trust(1, 0))}
	alone.do(machine.Propose(alone.m, "a"))("1 3 1a - - - 1 1")
	alone.do(machine.Propose(alone.m, "b"))("1 3 1a - - - 1 1")
	v, ok := machine.Decided(alone.m)
	same(t, "alone", fmt.Sprint(v, ok), "atrue")
}

// P27.2
func TestReceive(t *testing.T) {
	m := full(1)
	for name, c := range map[string]struct {
		change func(*api.Envelope)
		e      api.Errno
	}{
		"old":       {func(e *api.Envelope) {}, api.ErrOld},
		"new":       {func(e *api.Envelope) { e.Seq = 2 }, api.OK},
		"not valid": {func(e *api.Envelope) { e.Seq = 0 }, api.ErrEnvelope},
		"itself":    {func(e *api.Envelope) { e.Node, e.Seq = 0, 9 }, api.ErrEnvelope},
		"Slot":      {func(e *api.Envelope) { e.Slot, e.Seq = 2, 9 }, api.ErrEnvelope},
		"another":   {func(e *api.Envelope) { e.Node = 2 }, api.OK},
	} {
		e := prepares(1, of(1, "a"), none, none, 0, 0)
		c.change(&e)
		got, code := machine.Receive(m, e)
		same(t, name, code, c.e)
		if code != api.OK {
			same(t, name, fmt.Sprint(got), fmt.Sprint(api.Machine{}))
			continue
		}
		found := false
		for i, h := range got.Heard {
			found = found || fmt.Sprint(h) == fmt.Sprint(e)
			same(t, "order", i == 0 || got.Heard[i-1].Node < h.Node, true)
			got.Heard[i].Trust.Nodes[0] = 77
		}
		same(t, "heard", found, true)
		same(t, "no shared memory", fmt.Sprint(m, e.Trust), fmt.Sprint(full(1), four))
	}
}

// P27.2
func TestTimeout(t *testing.T) {
	heard := fresh(0, four)
	_, e := machine.Timeout(heard)
	same(t, "no value", e, api.ErrPhase)
	heard, _ = machine.Receive(heard, prepares(1, of(3, "b"), none, none, 0, 0))
	heard, _ = machine.Receive(heard, prepares(2, of(3, "c"), none, none, 0, 0))
	same(t, "blocked beyond", show(heard), "1 1 3c - - - 0 0")
	one := fresh(0, four)
	one, _ = machine.Receive(one, prepares(1, of(3, "b"), of(7, "z"), none, 0, 0))
	same(t, "not blocked", show(one), "0 1 - - - - 0 0")
	x := &tester{t: t, m: one}
	x.do(machine.Timeout(one))("1 1 1b - - - 0 0")
	one.Proposed = "p"
	x.do(machine.Timeout(one))("1 1 1p - - - 0 0")
	m := full(1)
	m.Heard = nil
	x.do(machine.Timeout(m))("6 1 5b 4b 3a 3b 3 0")
	m.Ballot, m.Low = of(4, "z"), 0
	x.do(machine.Timeout(m))("6 1 5b 4b 3a 3b 0 0")
	m = full(2)
	m.Heard = nil
	x.do(machine.Timeout(m))("6 2 5b 4b - 4b 2 4")
	m.Confirmed = none
	m.Ballot.Counter = 1000
	_, e = machine.Timeout(m)
	same(t, "too great", e, api.ErrLimit)
	m.Ballot.Counter = 999
	got, e := machine.Timeout(m)
	same(t, "not too great", fmt.Sprint(got.Ballot, e), fmt.Sprint(of(1000, "b"), 0))
	got, e = machine.Timeout(full(3))
	same(t, "external", fmt.Sprint(got, e), fmt.Sprint(api.Machine{}, api.ErrPhase))
}

// P27.2 and P27.4
func TestDeclare(t *testing.T) {
	m := full(1)
	m.Heard = nil
	x := &tester{t: t, m: m}
	x.do(machine.Declare(m, four))("5 1 4b 4b 3a 3b 3 0")
	other := trust(4, 0, 1, 2, 3)
	x.do(machine.Declare(m, other))("6 1 4b 4b 3a 3b 3 0")
	same(t, "Trust", fmt.Sprint(x.m.Trust), fmt.Sprint(other))
	x.m.Trust.Nodes[0] = 9
	same(t, "no shared memory", other.Nodes[0], 0)
	_, e := machine.Declare(m, trust(0))
	same(t, "not valid", e, api.ErrInvalid)
	x.do(machine.Declare(full(3), trust(1, 0)))("6 3 4b - - - 2 4")
	m.Seq = 1000000
	x.do(machine.Declare(m, trust(2, 0, 1, 2)))("1000000 1 4b 4b 3a 3b 3 0")
	x.do(machine.Declare(fresh(0, four), trust(1, 0)))("0 1 - - - - 0 0")
	m = full(1)
	m.Heard, m.Seq = nil, 0
	x.do(machine.Declare(m, four))("1 1 4b 4b 3a 3b 3 0")
	x.do(machine.Declare(m, trust(4, 0, 1, 2, 3)))("2 1 4b 4b 3a 3b 3 0")
}

// P27.3: all together, step by step.
func TestAdvance(t *testing.T) {
	a := of(1, "a")
	x := &tester{t: t, m: fresh(0, four)}
	x.do(machine.Propose(x.m, "a"))("1 1 1a - - - 0 0")
	x.hear(prepares(1, a, none, none, 0, 0), "1 1 1a - - - 0 0")
	x.hear(prepares(2, a, none, none, 0, 0), "2 1 1a 1a - - 0 0")
	x.hear(prepares(1, a, a, none, 0, 0), "2 1 1a 1a - - 0 0")
	x.hear(prepares(2, a, a, none, 0, 0), "3 1 1a 1a - 1a 1 0")
	x.hear(prepares(1, a, a, none, 1, 1), "3 1 1a 1a - 1a 1 0")
	x.hear(prepares(3, a, a, none, 1, 1), "4 2 1a 1a - 1a 1 1")
	x.hear(commits(1, a, a, 1, 1), "4 2 1a 1a - 1a 1 1")
	x.hear(commits(3, a, a, 1, 1), "5 3 1a - - - 1 1")
	// P27.4
	for node := 1; node < 4; node++ {
		x.hear(prepares(node, of(9, "z"), of(9, "z"), none, 9, 9), "5 3 1a - - - 1 1")
		x.hear(externals(node, of(9, "z"), 1, 9), "5 3 1a - - - 1 1")
	}
}

// P27.3, 1: a vote to commit is withdrawn when its ballot is aborted.
func TestAcceptPrepared(t *testing.T) {
	x := &tester{t: t, m: fresh(0, four)}
	x.m.Ballot, x.m.Prepared, x.m.Confirmed, x.m.Low, x.m.Seq = of(5, "b"), of(5, "b"), of(5, "b"), 2, 3
	same(t, "right", machine.Check(x.m), true)
	x.hear(prepares(1, of(1, "z"), of(3, "a"), none, 0, 0), "3 1 5b 5b - 5b 2 0")
	x.hear(prepares(2, of(1, "z"), of(3, "a"), none, 0, 0), "4 1 5b 5b 3a 5b 3 0")
	x.hear(prepares(1, of(1, "z"), of(4, "c"), none, 0, 0), "4 1 5b 5b 3a 5b 3 0")
	x.hear(prepares(2, of(1, "z"), of(4, "c"), none, 0, 0), "5 1 5b 5b 4c 5b 5 0")
	apart := func(e api.Envelope) api.Envelope {
		e.Trust = trust(1, 9)
		return e
	}
	x.hear(apart(prepares(1, of(1, "z"), of(6, "a"), none, 0, 0)), "5 1 5b 5b 4c 5b 5 0")
	x.hear(apart(prepares(2, of(1, "z"), of(6, "a"), none, 0, 0)), "6 1 5b 6a 5b 5b 0 0")
	// An accepted ballot of Infinity becomes one of MaxCounter.
	y := &tester{t: t, m: fresh(0, four)}
	y.do(machine.Propose(y.m, "b"))("1 1 1b - - - 0 0")
	y.hear(apart(externals(1, of(1, "a"), 1, 1)), "1 1 1b - - - 0 0")
	y.hear(apart(externals(2, of(1, "a"), 1, 1)), "2 2 1000a 1000a - 1a 1 1")
	// In PhaseCommit only ballots of the value are accepted.
	z := &tester{t: t, m: full(2)}
	z.m.Heard = nil
	z.hear(apart(prepares(1, of(1, "z"), of(6, "a"), none, 0, 0)), "5 2 4b 4b - 4b 2 4")
	z.hear(apart(prepares(2, of(1, "z"), of(6, "a"), none, 0, 0)), "5 2 4b 4b - 4b 2 4")
	z.hear(apart(prepares(1, of(1, "z"), of(6, "b"), none, 0, 0)), "5 2 4b 4b - 4b 2 4")
	z.hear(apart(prepares(2, of(1, "z"), of(7, "b"), none, 0, 0)), "6 2 4b 6b - 4b 2 4")
}

// P27.3, 2
func TestConfirmPrepared(t *testing.T) {
	x := &tester{t: t, m: fresh(0, four)}
	x.do(machine.Propose(x.m, "a"))("1 1 1a - - - 0 0")
	x.hear(prepares(1, of(1, "b"), of(2, "b"), none, 0, 0), "1 1 1a - - - 0 0")
	// The ballot becomes what is confirmed, with a vote to commit.
	x.hear(prepares(2, of(1, "b"), of(2, "b"), none, 0, 0), "2 1 2b 2b - 2b 2 0")
	// The ballot stays if it is greater; the vote stays for the range.
	x.do(machine.Timeout(x.m))("3 1 3b 2b - 2b 2 0")
	x.hear(prepares(1, of(3, "b"), of(3, "b"), none, 0, 0), "3 1 3b 2b - 2b 2 0")
	x.hear(prepares(2, of(3, "b"), of(3, "b"), none, 0, 0), "4 1 3b 3b - 3b 2 0")
	// A greater ballot of another value.
	x.hear(prepares(1, of(5, "c"), of(5, "c"), none, 0, 0), "4 1 3b 3b - 3b 2 0")
	x.hear(prepares(2, of(5, "c"), of(5, "c"), none, 0, 0), "5 1 5c 5c 3b 5c 5 0")
	// No vote for a ballot that is greater than what is confirmed.
	y := &tester{t: t, m: fresh(0, four)}
	y.do(machine.Propose(y.m, "a"))("1 1 1a - - - 0 0")
	y.do(machine.Timeout(y.m))("2 1 2a - - - 0 0")
	y.do(machine.Timeout(y.m))("3 1 3a - - - 0 0")
	y.hear(prepares(1, of(2, "a"), of(2, "a"), none, 0, 0), "3 1 3a - - - 0 0")
	y.hear(prepares(2, of(2, "a"), of(2, "a"), none, 0, 0), "4 1 3a 2a - 2a 0 0")
	// No vote for what is aborted.
	z := &tester{t: t, m: fresh(0, four)}
	z.do(machine.Propose(z.m, "a"))("1 1 1a - - - 0 0")
	z.m.Prepared, z.m.Prime = of(4, "b"), of(2, "a")
	z.hear(prepares(1, of(1, "z"), of(2, "a"), none, 0, 0), "1 1 1a 4b 2a - 0 0")
	z.hear(prepares(2, of(1, "z"), of(2, "a"), none, 0, 0), "2 1 2a 4b 2a 2a 0 0")
}

// P27.3, 3
func TestAcceptCommit(t *testing.T) {
	apart := func(e api.Envelope) api.Envelope {
		e.Trust = trust(1, 9)
		return e
	}
	// Without a ballot.
	x := &tester{t: t, m: fresh(0, four)}
	x.hear(apart(commits(1, of(4, "a"), of(5, "a"), 2, 5)), "0 1 - - - - 0 0")
	x.hear(apart(commits(2, of(4, "a"), of(5, "a"), 3, 5)), "1 2 5a 5a - 5a 3 5")
	// More commits.
	x.hear(apart(commits(1, of(4, "a"), of(7, "a"), 2, 7)), "1 2 5a 5a - 5a 3 5")
	x.hear(apart(commits(2, of(4, "a"), of(8, "a"), 2, 8)), "2 2 7a 7a - 7a 2 7")
	x.hear(apart(commits(1, of(4, "a"), of(11, "a"), 9, 11)), "3 2 7a 8a - 7a 2 7")
	x.hear(apart(commits(2, of(4, "a"), of(11, "a"), 9, 11)), "4 2 11a 11a - 11a 9 11")
	// A greater ballot of the value stays, one of another value keeps its counter.
	for _, c := range []struct{ ballot, prepared, prime api.Ballot }{{of(9, "a"), none, none}, {of(9, "b"), none, none}, {of(9, "b"), of(8, "a"), of(6, "c")}} {
		y := &tester{t: t, m: fresh(0, four)}
		y.m.Ballot, y.m.Prepared, y.m.Prime, y.m.Seq = c.ballot, c.prepared, c.prime, 1
		same(t, "right", machine.Check(y.m), true)
		y.m, _ = machine.Receive(y.m, apart(commits(1, of(4, "a"), of(7, "a"), 7, 7)))
		y.hear(apart(commits(2, of(4, "a"), of(7, "a"), 7, 7)), map[bool]string{true: "2 2 9a 7a - 7a 7 7", false: "2 2 9a 8a - 7a 7 7"}[c.prepared == none])
	}
	// What is aborted is not accepted.
	z := &tester{t: t, m: fresh(0, four)}
	z.do(machine.Propose(z.m, "b"))("1 1 1b - - - 0 0")
	z.m.Prepared = of(9, "c")
	z.hear(apart(commits(1, of(4, "a"), of(7, "a"), 7, 7)), "1 1 1b 9c - - 0 0")
	z.hear(apart(commits(2, of(4, "a"), of(7, "a"), 7, 7)), "2 1 4b 9c 7a - 0 0")
}

// P27.3, 4
func TestConfirmCommit(t *testing.T) {
	x := &tester{t: t, m: full(2)}
	x.m.Heard = nil
	x.hear(commits(1, of(9, "b"), of(9, "b"), 2, 9), "5 2 4b 4b - 4b 2 4")
	x.hear(commits(2, of(9, "b"), of(4, "b"), 3, 4), "6 3 4b - - - 3 4")
}

// P27.3, 5
func TestCatchUp(t *testing.T) {
	x := &tester{t: t, m: fresh(0, four)}
	x.do(machine.Propose(x.m, "b"))("1 1 1b - - - 0 0")
	x.hear(prepares(1, of(7, "a"), none, none, 0, 0), "1 1 1b - - - 0 0")
	x.hear(prepares(2, of(4, "c"), none, none, 0, 0), "2 1 4b - - - 0 0")
	x.hear(prepares(3, of(9, "c"), none, none, 0, 0), "3 1 7b - - - 0 0")
	x.do(machine.Propose(x.m, "q"))("3 1 7b - - - 0 0")
	x.hear(prepares(1, of(8, "a"), none, none, 0, 0), "4 1 8q - - - 0 0")
	y := &tester{t: t, m: fresh(0, four)}
	y.hear(prepares(1, of(7, "a"), none, none, 0, 0), "0 1 - - - - 0 0")
	y.hear(prepares(3, of(5, "c"), none, none, 0, 0), "1 1 5a - - - 0 0")
}

// group is several machines that send their messages to each other.
type group struct {
	t     *testing.T
	nodes []api.Machine
	ill   int
}

// take gives a node its next state, and checks what never changes.
func (g *group) take(k int, next api.Machine, e api.Errno) {
	if e != api.OK {
		return
	}
	before := g.nodes[k]
	same(g.t, "right", machine.Check(next), true)
	same(g.t, "advanced", fmt.Sprint(machine.Advance(next)), fmt.Sprint(next))
	a, had := machine.Message(before)
	b, has := machine.Message(next)
	if had {
		same(g.t, "a message stays", has, true)
		a.Seq, b.Seq = 0, 0
		changed := 0
		if fmt.Sprint(a) != fmt.Sprint(b) {
			changed = 1
		}
		same(g.t, "Seq", next.Seq, before.Seq+changed)
		g.keeps(a, b)
	} else if has {
		same(g.t, "the first Seq", next.Seq, 1)
	}
	g.nodes[k] = next
}

// keeps checks that what a message accepts a later one accepts, too.
func (g *group) keeps(a, b api.Envelope) {
	a.Seq, b.Seq = 1, 1
	if a.Kind == api.KindPrepare && b.Kind == api.KindPrepare {
		for _, x := range []api.Ballot{a.Prepared, a.Prime} {
			if x != none {
				same(g.t, "prepared", envelopes.AcceptsPrepare(b, x), true)
			}
		}
	}
	if a.Kind == api.KindCommit && b.Kind == api.KindCommit {
		same(g.t, "High", b.High >= a.High && b.Ballot.Value == a.Ballot.Value, true)
	}
	if a.Kind == api.KindExternal {
		same(g.t, "external", fmt.Sprint(a.Kind, a.Ballot, a.Low, a.High), fmt.Sprint(b.Kind, b.Ballot, b.Low, b.High))
	}
	if b.Kind == api.KindPrepare && b.Low != 0 {
		low := of(b.Low, b.Ballot.Value)
		same(g.t, "no vote for what is aborted", ballots.Aborts(b.Prepared, low) || ballots.Aborts(b.Prime, low), false)
	}
}

// send lets a node hear another one.
func (g *group) send(from, to int) {
	if e, ok := machine.Message(g.nodes[from]); ok && from != to {
		next, code := machine.Receive(g.nodes[to], e)
		g.take(to, next, code)
	}
}

// decided returns the values of the well-behaved nodes.
func (g *group) decided() map[api.Value]int {
	values := map[api.Value]int{}
	for k, m := range g.nodes {
		if v, ok := machine.Decided(m); ok && g.ill>>k&1 == 0 {
			values[v]++
		}
	}
	return values
}

// begin makes a group of n nodes with the threshold k.
func begin(t *testing.T, n, k, ill int) *group {
	g := &group{t: t, ill: ill}
	for node := range n {
		g.nodes = append(g.nodes, fresh(node, trust(k, nodeset.Nodes(1<<n-1)...)))
	}
	return g
}

// The example of the chapter.
func TestExample(t *testing.T) {
	g := begin(t, 4, 3, 0)
	for k := range 4 {
		next, e := machine.Propose(g.nodes[k], "a")
		g.take(k, next, e)
	}
	for range 5 {
		for from := range 4 {
			for to := range 4 {
				g.send(from, to)
			}
		}
	}
	same(t, "all decide a", g.decided()["a"], 4)
}

// The consequences of the chapter, with random schedules and a liar: nobody is betrayed, and all end once they hear each other.
func TestConsequences(t *testing.T) {
	r := rand.New(rand.NewSource(27))
	ballot := func() api.Ballot {
		if r.Intn(4) == 0 {
			return none
		}
		return of(1+r.Intn(5), string(rune('a'+r.Intn(3))))
	}
	finished := 0
	for round := range 60 {
		ill := 0
		if round%2 == 0 {
			ill = 8
		}
		g := begin(t, 4, 3, ill)
		for range 120 {
			k := r.Intn(3)
			switch r.Intn(12) {
			case 0:
				next, e := machine.Propose(g.nodes[k], string(rune('a'+r.Intn(3))))
				g.take(k, next, e)
			case 1:
				next, e := machine.Timeout(g.nodes[k])
				g.take(k, next, e)
			case 2, 3:
				if ill == 0 {
					break
				}
				lie := envelope(3, 1+r.Intn(3), ballot(), ballot(), ballot(), r.Intn(4), r.Intn(5))
				lie.Seq = 1 + r.Intn(200)
				next, e := machine.Receive(g.nodes[k], lie)
				g.take(k, next, e)
			default:
				from := r.Intn(4)
				if ill>>from&1 == 0 {
					g.send(from, k)
				}
			}
		}
		same(t, "no two values", len(g.decided()) <= 1, true)
		for range 60 {
			for k := range 4 {
				if ill>>k&1 == 1 {
					continue
				}
				for range 4 {
					for from := range 4 {
						if ill>>from&1 == 0 {
							g.send(from, k)
						}
					}
				}
			}
			for k := range 4 {
				if r.Intn(3) == 0 {
					next, e := machine.Timeout(g.nodes[k])
					g.take(k, next, e)
				}
			}
		}
		same(t, "no two values", len(g.decided()) <= 1, true)
		for _, n := range g.decided() {
			finished += n
		}
	}
	same(t, "most end", finished > 150, true)
}

// Machines that were made otherwise: all functions end, and Advance of Advance is Advance as long as the machine is right.
func TestAnyMachine(t *testing.T) {
	r := rand.New(rand.NewSource(28))
	ballot := func() api.Ballot {
		switch r.Intn(8) {
		case 0, 1:
			return none
		case 2:
			return of([]int{999, 1000, api.Infinity}[r.Intn(3)], "b")
		}
		return of(1+r.Intn(5), string(rune('a'+r.Intn(3))))
	}
	random := func(node int) api.Envelope {
		e := envelope(node, 1+r.Intn(3), ballot(), ballot(), ballot(), r.Intn(4), r.Intn(5))
		if e.Kind != api.KindPrepare {
			e.Prime = none
		}
		if e.Kind == api.KindExternal {
			e.Prepared = none
		}
		if r.Intn(4) == 0 {
			e.Trust = trust(1, 9)
		}
		return e
	}
	n := 0
	for range 20000 {
		e := random(0)
		m := api.Machine{Node: 0, Slot: 1, Seq: r.Intn(3), Trust: trust(1+r.Intn(4), 0, 1, 2, 3), Phase: e.Kind, Ballot: e.Ballot, Prepared: e.Prepared, Prime: e.Prime, Confirmed: ballot(), Low: e.Low, High: e.High, Proposed: []api.Value{"", "a", "c"}[r.Intn(3)]}
		if m.Phase == api.PhasePrepare {
			m.High = 0
		}
		for node := 1; node < 4; node++ {
			if e := random(node); envelopes.Valid(e) {
				m.Heard = append(m.Heard, e)
			}
		}
		if !machine.Check(m) {
			continue
		}
		n++
		next := machine.Advance(m)
		same(t, "again", fmt.Sprint(machine.Advance(next)), fmt.Sprint(next))
		machine.Timeout(m)
		machine.Propose(m, "b")
		machine.Declare(m, trust(1, 0))
		machine.Receive(m, random(1+r.Intn(3)))
	}
	same(t, "some", n > 1000, true)
}
