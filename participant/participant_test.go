package participant_test

import (
	"fmt"
	"math"
	"strings"
	"testing"

	"trustquorum/api"
	"trustquorum/machine"
	"trustquorum/nomination"
	"trustquorum/participant"
	"trustquorum/slot"
)

func same[T comparable](t *testing.T, name string, got, want T) {
	t.Helper()
	if got != want {
		t.Errorf("%s: got %v, want %v", name, got, want)
	}
}

func trust(k int, nodes ...int) api.Trust { return api.Trust{Threshold: k, Nodes: nodes} }

func of(n int, v api.Value) api.Ballot { return api.Ballot{Counter: n, Value: v} }

var (
	four = trust(3, 0, 1, 2, 3)
	long = strings.Repeat("x", api.MaxBytes)
)

func fresh(x api.Trust) api.Participant {
	p, e := participant.New(0, x)
	if e != api.OK {
		panic(e)
	}
	return p
}

// begun is a participant that has begun some slots.
func begun(x api.Trust, numbers ...int) api.Participant {
	p := fresh(x)
	for _, n := range numbers {
		next, e := participant.Begin(p, n, fmt.Sprint("v", n), 0)
		if e != api.OK {
			panic(e)
		}
		p = next
	}
	return p
}

// slots writes the numbers of slots.
func slots(p api.Participant) string {
	var l []int
	for _, s := range p.Slots {
		l = append(l, s.Machine.Slot)
	}
	return fmt.Sprint(l)
}

func ballot(node, seq, number int, b api.Ballot) api.Letter {
	return api.Letter{Kind: api.LetterEnvelope, Slot: number, Envelope: api.Envelope{Node: node, Slot: number, Seq: seq, Trust: four, Kind: api.KindPrepare, Ballot: b}}
}

func nominate(node, seq, number int, votes string) api.Letter {
	return api.Letter{Kind: api.LetterNomination, Slot: number, Nomination: api.Nomination{Node: node, Seq: seq, Trust: four, Votes: strings.Fields(votes)}}
}

// P30.1
func TestNew(t *testing.T) {
	p, e := participant.New(3, four)
	same(t, "New", fmt.Sprint(p, e), fmt.Sprint(api.Participant{Node: 3, Trust: four}, 0))
	same(t, "Check", participant.Check(p), true)
	p.Trust.Nodes[0] = 9
	same(t, "no shared memory", four.Nodes[0], 0)
	for _, c := range []struct {
		node int
		x    api.Trust
		e    api.Errno
	}{{-1, trust(0), api.ErrNode}, {10, four, api.ErrNode}, {0, trust(0), api.ErrInvalid}, {0, trust(1, 10), api.ErrInvalid}} {
		p, e := participant.New(c.node, c.x)
		same(t, "New", fmt.Sprint(p, e), fmt.Sprint(api.Participant{}, c.e))
	}
}

// P30.1: what is not right.
func TestCheck(t *testing.T) {
	for name, f := range map[string]func(*api.Participant){
		"Node":        func(p *api.Participant) { p.Node = 10 },
		"negative":    func(p *api.Participant) { p.Node = -1 },
		"Trust":       func(p *api.Participant) { p.Trust = trust(0) },
		"other Node":  func(p *api.Participant) { p.Node = 1 },
		"other Trust": func(p *api.Participant) { p.Trust = trust(1, 0) },
		"slot":        func(p *api.Participant) { p.Slots[1].Round = 0 },
		"order":       func(p *api.Participant) { p.Slots[0], p.Slots[1] = p.Slots[1], p.Slots[0] },
		"twice":       func(p *api.Participant) { p.Slots[1] = p.Slots[0] },
		"too many": func(p *api.Participant) {
			s, _ := slot.New(0, 99, four, "", 0)
			p.Slots = append(begun(four, 1, 2, 3, 4, 5, 6, 7, 8).Slots, s)
		},
	} {
		p := begun(four, 3, 7)
		f(&p)
		same(t, name, participant.Check(p), false)
		want := fmt.Sprint(api.Participant{}, api.ErrState)
		for _, stopped := range []bool{false, true} {
			p.Stopped = stopped
			same(t, name, fmt.Sprint(participant.Begin(p, 3, "", -1)), want)
			same(t, name, fmt.Sprint(participant.Prefer(p, 3, "", -1)), want)
			same(t, name, fmt.Sprint(participant.Hear(p, api.Letter{}, -1)), want)
			same(t, name, fmt.Sprint(participant.Declare(p, trust(0))), want)
			same(t, name, fmt.Sprint(participant.Tick(p, -1)), want)
			same(t, name, fmt.Sprint(participant.Stop(p)), fmt.Sprint(p))
			same(t, name, len(participant.Letters(p)), 0)
			v, ok := participant.Decided(p, 3)
			same(t, name, fmt.Sprint(v, ok), "false")
		}
	}
	for _, node := range []int{-1, 10, math.MinInt} {
		same(t, "no slots", participant.Check(api.Participant{Node: node, Trust: four}), false)
	}
	same(t, "no slots", participant.Check(api.Participant{Node: 9, Trust: four}), true)
	same(t, "no slots", participant.Check(api.Participant{Node: 9, Trust: trust(0)}), false)
	same(t, "eight slots", participant.Check(begun(four, 1, 2, 3, 4, 5, 6, 7, 8)), true)
}

// P30.1
func TestStop(t *testing.T) {
	p := begun(trust(1, 0), 3)
	s := participant.Stop(p)
	same(t, "the argument stays", p.Stopped, false)
	same(t, "Stopped", s.Stopped, true)
	same(t, "right", participant.Check(s), true)
	want := fmt.Sprint(s, 0)
	same(t, "Begin", fmt.Sprint(participant.Begin(s, 3, long+"x", -1)), want)
	same(t, "Prefer", fmt.Sprint(participant.Prefer(s, 3, "", -1)), want)
	same(t, "Hear", fmt.Sprint(participant.Hear(s, api.Letter{}, -1)), want)
	same(t, "Declare", fmt.Sprint(participant.Declare(s, trust(0))), want)
	same(t, "Tick", fmt.Sprint(participant.Tick(s, -1)), want)
	same(t, "Stop", fmt.Sprint(participant.Stop(s)), fmt.Sprint(s))
	same(t, "Letters", len(participant.Letters(s)), 0)
	v, ok := participant.Decided(s, 3)
	same(t, "what it has decided stays", fmt.Sprint(v, ok), "v3true")
}

// P30.2
func TestBegin(t *testing.T) {
	p := begun(four, 7, 3, 9, 1)
	same(t, "order", slots(p), "[1 3 7 9]")
	want, _ := slot.New(0, 5, four, "own", 4)
	next, e := participant.Begin(p, 5, "own", 4)
	same(t, "Begin", fmt.Sprint(next.Slots[2], e), fmt.Sprint(want, 0))
	same(t, "the argument stays", slots(p), "[1 3 7 9]")
	full := begun(four, 1, 2, 3, 4, 5, 6, 7, 8)
	for _, c := range []struct {
		p      api.Participant
		number int
		own    api.Value
		now    int
		e      api.Errno
	}{
		{full, 3, long + "x", -1, api.ErrDuplicate},
		{full, 0, long + "x", -1, api.ErrLimit},
		{p, 0, long + "x", -1, api.ErrInvalid},
		{p, 0, long + "x", 0, api.ErrSlot},
		{p, 5, long + "x", 0, api.ErrLimit},
		{p, 5, "", 201, api.ErrInvalid},
	} {
		next, e := participant.Begin(c.p, c.number, c.own, c.now)
		same(t, "Begin", fmt.Sprint(next, e), fmt.Sprint(api.Participant{}, c.e))
	}
}

// P30.2
func TestPrefer(t *testing.T) {
	p, e := participant.Prefer(fresh(four), 5, "p", 4)
	want, _ := slot.New(0, 5, four, "p", 4)
	want, _ = slot.Prefer(want, "p")
	same(t, "begins", fmt.Sprint(p.Slots, e), fmt.Sprint([]api.Slot{want}, 0))
	p, e = participant.Prefer(p, 5, "q", -1)
	want, _ = slot.Prefer(want, "q")
	same(t, "is there", fmt.Sprint(p.Slots, e), fmt.Sprint([]api.Slot{want}, 0))
	for _, c := range []struct {
		number int
		v      api.Value
		now    int
		e      api.Errno
	}{{5, "", -1, api.ErrInvalid}, {5, long + "x", 0, api.ErrInvalid}, {6, "", 0, api.ErrInvalid}, {6, long + "x", 0, api.ErrLimit}, {6, "p", -1, api.ErrInvalid}, {0, "p", 0, api.ErrSlot}} {
		next, e := participant.Prefer(p, c.number, c.v, c.now)
		same(t, fmt.Sprint(c), fmt.Sprint(next, e), fmt.Sprint(api.Participant{}, c.e))
	}
	_, e = participant.Prefer(begun(four, 1, 2, 3, 4, 5, 6, 7, 8), 9, "p", 0)
	same(t, "too many", e, api.ErrLimit)
	_, e = participant.Prefer(begun(four, 1, 2, 3, 4, 5, 6, 7, 8), 8, "p", 0)
	same(t, "one of eight", e, api.OK)
}

// P30.3
func TestHear(t *testing.T) {
	p := begun(four, 3)
	next, e := participant.Hear(p, nominate(1, 1, 5, "a"), 4)
	want, _ := slot.New(0, 5, four, "0", 4)
	want, _ = slot.Nominated(want, nominate(1, 1, 5, "a").Nomination)
	same(t, "an unknown slot", fmt.Sprint(next.Slots[1], e), fmt.Sprint(want, 0))
	same(t, "slots", slots(next), "[3 5]")
	next, e = participant.Hear(p, ballot(1, 1, 2, of(1, "a")), 4)
	want, _ = slot.New(0, 2, four, "0", 4)
	want, _ = slot.Balloted(want, ballot(1, 1, 2, of(1, "a")).Envelope)
	same(t, "an unknown slot", fmt.Sprint(next.Slots[0], e), fmt.Sprint(want, 0))
	next, e = participant.Hear(p, ballot(1, 1, 3, of(1, "a")), -1)
	want, _ = slot.Balloted(p.Slots[0], ballot(1, 1, 3, of(1, "a")).Envelope)
	same(t, "a known slot", fmt.Sprint(next.Slots, e), fmt.Sprint([]api.Slot{want}, 0))
	next, e = participant.Hear(next, nominate(1, 1, 3, "a"), -1)
	want, _ = slot.Nominated(want, nominate(1, 1, 3, "a").Nomination)
	same(t, "a known slot", fmt.Sprint(next.Slots, e), fmt.Sprint([]api.Slot{want}, 0))
	other := ballot(1, 1, 3, of(1, "a"))
	other.Slot = 4
	mixed := nominate(1, 2, 3, "a")
	mixed.Envelope.Slot = 99
	full := begun(four, 1, 2, 3, 4, 5, 6, 7, 8)
	for name, c := range map[string]struct {
		p   api.Participant
		l   api.Letter
		now int
		e   api.Errno
	}{
		"no kind":               {p, api.Letter{Slot: 3}, 0, api.ErrInvalid},
		"another kind":          {p, api.Letter{Kind: 3, Slot: 3}, 0, api.ErrInvalid},
		"another slot":          {p, other, 0, api.ErrInvalid},
		"it has no envelope":    {p, mixed, 0, api.OK},
		"too many":              {full, nominate(0, 0, 9, ""), -1, api.ErrLimit},
		"no time":               {p, nominate(1, 1, 9, ""), -1, api.ErrInvalid},
		"no slot":               {p, nominate(1, 1, 0, ""), 0, api.ErrSlot},
		"its own":               {p, nominate(0, 1, 3, ""), 0, api.ErrInvalid},
		"its own envelope":      {p, ballot(0, 1, 3, of(1, "a")), 0, api.ErrEnvelope},
		"not valid, new slot":   {p, ballot(1, 0, 9, of(1, "a")), 0, api.ErrEnvelope},
		"old":                   {next, ballot(1, 1, 3, of(1, "a")), 0, api.ErrOld},
		"an old nomination":     {next, nominate(1, 1, 3, "a"), 0, api.ErrOld},
		"what is known is full": {full, nominate(1, 1, 8, "a"), -1, api.OK},
	} {
		got, e := participant.Hear(c.p, c.l, c.now)
		same(t, name, e, c.e)
		if e != api.OK {
			same(t, name, fmt.Sprint(got), fmt.Sprint(api.Participant{}))
		}
	}
	l := ballot(1, 1, 3, of(1, "a"))
	l.Envelope.Trust = trust(1, 1)
	next, _ = participant.Hear(p, l, 0)
	next.Slots[0].Machine.Heard[0].Trust.Nodes[0] = 7
	same(t, "no shared memory", l.Envelope.Trust.Nodes[0], 1)
}

// P30.4
func TestDeclare(t *testing.T) {
	p := begun(four, 3, 7)
	x := trust(1, 0)
	next, e := participant.Declare(p, x)
	same(t, "Declare", fmt.Sprint(e, participant.Check(next), next.Trust), fmt.Sprint(0, true, x))
	for i, s := range p.Slots {
		want, _ := slot.Declare(s, x)
		same(t, "each slot", fmt.Sprint(next.Slots[i]), fmt.Sprint(want))
	}
	next.Trust.Nodes[0], next.Slots[0].Machine.Trust.Nodes[0] = 8, 8
	same(t, "no shared memory", x.Nodes[0], 0)
	got, e := participant.Declare(p, trust(1, 10))
	same(t, "not valid", fmt.Sprint(got, e), fmt.Sprint(api.Participant{}, api.ErrInvalid))
}

// P30.4
func TestTick(t *testing.T) {
	p := begun(four, 3, 7)
	next, e := participant.Tick(p, 2)
	same(t, "Tick", e, api.OK)
	var letters []api.Letter
	for i, s := range p.Slots {
		want, _ := slot.Tick(s, 2)
		same(t, "each slot", fmt.Sprint(next.Slots[i]), fmt.Sprint(want))
		letters = append(letters, slot.Letters(s)...)
	}
	same(t, "Letters", fmt.Sprint(participant.Letters(p)), fmt.Sprint(letters))
	for _, now := range []int{-1, 201, math.MaxInt} {
		got, e := participant.Tick(p, now)
		same(t, "no time", fmt.Sprint(got, e), fmt.Sprint(api.Participant{}, api.ErrInvalid))
	}
	_, e = participant.Tick(fresh(four), -1)
	same(t, "no slots, no error", e, api.OK)
	own := begun(trust(1, 0), 3, 7)
	for number, want := range map[int]string{3: "v3true", 7: "v7true", 5: "false", 0: "false", -1: "false"} {
		v, ok := participant.Decided(own, number)
		same(t, "Decided", fmt.Sprint(v, ok), want)
	}
	v, ok := participant.Decided(p, 3)
	same(t, "not decided", fmt.Sprint(v, ok), "false")
	m, _ := machine.Message(own.Slots[1].Machine)
	same(t, "Letters", fmt.Sprint(participant.Letters(own)[1].Envelope), fmt.Sprint(m))
	same(t, "a composite", nomination.Compare("v3", "v7"), -1)
}
