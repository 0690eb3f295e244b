package slot_test

import (
	"fmt"
	"math"
	"strings"
	"testing"

	"trustquorum/api"
	"trustquorum/leaders"
	"trustquorum/machine"
	"trustquorum/nomination"
	"trustquorum/slot"
)

func same[T comparable](t *testing.T, name string, got, want T) {
	t.Helper()
	if got != want {
		t.Errorf("%s: got %v, want %v", name, got, want)
	}
}

func trust(k int, nodes ...int) api.Trust { return api.Trust{Threshold: k, Nodes: nodes} }

func of(n int, v api.Value) api.Ballot { return api.Ballot{Counter: n, Value: v} }

var (
	four = trust(3, 0, 1, 2, 3)
	long = strings.Repeat("x", api.MaxBytes)
)

// led returns the first slot in which node 0 with a trust listens to a leader in round 1.
func led(x api.Trust, leader int) int {
	for number := 1; ; number++ {
		if l, _ := leaders.Choose(x, 0, number, 1); l == leader {
			return number
		}
	}
}

func begin(number int, x api.Trust, own api.Value, now int) api.Slot {
	s, e := slot.New(0, number, x, own, now)
	if e != api.OK {
		panic(e)
	}
	return s
}

func nominates(node, seq int, x api.Trust, votes, accepts string) api.Nomination {
	return api.Nomination{Node: node, Seq: seq, Trust: x, Votes: strings.Fields(votes), Accepts: strings.Fields(accepts)}
}

func says(node, seq, number int, ballot, prepared api.Ballot) api.Envelope {
	return api.Envelope{Node: node, Slot: number, Seq: seq, Trust: four, Kind: api.KindPrepare, Ballot: ballot, Prepared: prepared}
}

// show writes what changes of a slot.
func show(s api.Slot) string {
	return fmt.Sprintf("%v %d%v%s %v%d %d %v%s", s.Nominator.Candidates, s.Machine.Phase, s.Machine.Ballot, s.Machine.Proposed, s.Timer, s.Round, s.Next, s.Done, s.Value)
}

// P29.1
func TestNew(t *testing.T) {
	s := begin(7, four, "v", 5)
	n, _ := nomination.Start(0, 7, four, "v")
	m, _ := machine.New(0, 7, four)
	same(t, "New", fmt.Sprint(s), fmt.Sprint(api.Slot{Nominator: n, Machine: m, Timer: api.Timer{Due: -1}, Round: 1, Next: 7}))
	same(t, "Check", slot.Check(s), true)
	alone := begin(1, trust(1, 0), "a", 0)
	same(t, "alone", show(alone), "[a] 3{1 a}a {0 -1}1 2 truea")
	for _, c := range []struct {
		node, number int
		x            api.Trust
		own          api.Value
		now          int
		e            api.Errno
	}{
		{-1, 0, trust(0), long + "x", -1, api.ErrInvalid},
		{0, 1, four, "", 201, api.ErrInvalid},
		{0, 1, four, "", math.MaxInt, api.ErrInvalid},
		{10, 0, trust(0), long + "x", 0, api.ErrNode},
		{0, 0, trust(0), long + "x", 0, api.ErrSlot},
		{0, api.MaxSlot + 1, four, "", 0, api.ErrSlot},
		{0, 1, trust(0), long + "x", 0, api.ErrInvalid},
		{0, 1, four, long + "x", 0, api.ErrLimit},
	} {
		s, e := slot.New(c.node, c.number, c.x, c.own, c.now)
		same(t, "New", fmt.Sprint(s, e), fmt.Sprint(api.Slot{}, c.e))
	}
	last := begin(api.MaxSlot, four, long, 200)
	same(t, "limits", fmt.Sprint(slot.Check(last), last.Next), "true 202")
	x := trust(1, 0)
	s = begin(1, x, "a", 0)
	s.Machine.Trust.Nodes[0] = 5
	same(t, "no shared memory", fmt.Sprint(x.Nodes, s.Nominator.Trust.Nodes), "[0] [0]")
}

// P29.1: what is not right.
func TestCheck(t *testing.T) {
	decided := begin(1, trust(1, 0), "a", 0)
	for name, f := range map[string]func(*api.Slot){
		"machine":       func(s *api.Slot) { s.Machine.Seq = -1 },
		"nominator":     func(s *api.Slot) { s.Nominator.Seq = 0 },
		"Node":          func(s *api.Slot) { s.Nominator.Node = 1 },
		"Slot":          func(s *api.Slot) { s.Nominator.Slot = 2 },
		"Trust":         func(s *api.Slot) { s.Nominator.Trust = trust(1, 1) },
		"timer":         func(s *api.Slot) { s.Timer.Due = -2 },
		"Round 0":       func(s *api.Slot) { s.Round = 0 },
		"Round":         func(s *api.Slot) { s.Round = api.MaxRounds + 1 },
		"negative Next": func(s *api.Slot) { s.Next = -1 },
		"Next":          func(s *api.Slot) { s.Next = 213 },
		"Done":          func(s *api.Slot) { s.Done = false },
		"Value":         func(s *api.Slot) { s.Value = "b" },
	} {
		s := decided
		f(&s)
		same(t, name, slot.Check(s), false)
		want := fmt.Sprint(api.Slot{}, api.ErrState)
		same(t, name, fmt.Sprint(slot.Nominated(s, api.Nomination{})), want)
		same(t, name, fmt.Sprint(slot.Balloted(s, api.Envelope{})), want)
		same(t, name, fmt.Sprint(slot.Prefer(s, "")), want)
		same(t, name, fmt.Sprint(slot.Declare(s, trust(0))), want)
		same(t, name, fmt.Sprint(slot.Tick(s, -1)), want)
		same(t, name, len(slot.Letters(s)), 0)
	}
	s := decided
	s.Round, s.Next = api.MaxRounds, 212
	same(t, "right", slot.Check(s), true)
	s.Next = 0
	same(t, "right", slot.Check(s), true)
	s.Done, s.Value, s.Machine = false, "", begin(1, trust(1, 0), "", 0).Machine
	same(t, "right, though not settled", slot.Check(s), true)
	s.Value = "a"
	same(t, "a value that is not decided", slot.Check(s), false)
}

// P29.2
func TestNominated(t *testing.T) {
	number := led(four, 1)
	s := begin(number, four, "own", 0)
	hear := func(n api.Nomination, want string) {
		t.Helper()
		before := fmt.Sprint(s)
		next, e := slot.Nominated(s, n)
		same(t, "Nominated", fmt.Sprint(show(next), " ", e), want+" 0")
		same(t, "the argument stays", fmt.Sprint(s), before)
		s = next
	}
	hear(nominates(1, 1, four, "a b", ""), "[] 1{0 } {0 -1}1 2 false")
	hear(nominates(2, 1, four, "", "a"), "[] 1{0 } {0 -1}1 2 false")
	hear(nominates(1, 2, four, "", "a"), "[a] 1{1 a}a {0 -1}1 2 false")
	hear(nominates(1, 3, four, "", "a c"), "[a] 1{1 a}a {0 -1}1 2 false")
	hear(nominates(2, 2, four, "", "a c"), "[a c] 1{1 a}c {0 -1}1 2 false")
	_, e := slot.Nominated(s, nominates(2, 2, four, "", ""))
	same(t, "old", e, api.ErrOld)
	got, e := slot.Nominated(s, nominates(0, 9, four, "", ""))
	same(t, "itself", fmt.Sprint(got, e), fmt.Sprint(api.Slot{}, api.ErrInvalid))
	// What is confirmed as prepared is not given up for other candidates.
	for node := 1; node < 3; node++ {
		s, e = slot.Balloted(s, says(node, 1, number, of(1, "z"), of(3, "z")))
		same(t, "Balloted", e, api.OK)
	}
	same(t, "confirmed", s.Machine.Confirmed, of(3, "z"))
	s, _ = slot.Nominated(s, nominates(1, 4, four, "", "a c d"))
	s, _ = slot.Nominated(s, nominates(2, 4, four, "", "a c d"))
	same(t, "not proposed any more", fmt.Sprint(s.Nominator.Candidates, s.Machine.Proposed), "[a c d]c")
}

// P29.2
func TestOthers(t *testing.T) {
	number := led(four, 1)
	s := begin(number, four, "own", 0)
	for _, c := range []struct {
		e    api.Envelope
		want api.Errno
	}{{says(0, 1, number, of(1, "a"), api.Ballot{}), api.ErrEnvelope}, {says(1, 1, number+1, of(1, "a"), api.Ballot{}), api.ErrEnvelope}, {says(1, 0, number, of(1, "a"), api.Ballot{}), api.ErrEnvelope}} {
		got, e := slot.Balloted(s, c.e)
		same(t, "Balloted", fmt.Sprint(got, e), fmt.Sprint(api.Slot{}, c.want))
	}
	got, e := slot.Prefer(s, "p")
	same(t, "Prefer", fmt.Sprint(show(got), " ", e), "[] 1{1 p}p {0 -1}1 2 false 0")
	for _, v := range []api.Value{"", long + "x"} {
		_, e = slot.Prefer(s, v)
		same(t, "Prefer", e, api.ErrInvalid)
	}
	alone, e := slot.Prefer(begin(1, trust(1, 0), "", 0), "p")
	same(t, "decides", fmt.Sprint(show(alone), " ", e), "[] 3{1 p}p {0 -1}1 2 truep 0")
	alone, _ = slot.Prefer(alone, "q")
	same(t, "for ever", fmt.Sprint(alone.Done, alone.Value), "truep")
	// What is preferred is proposed anew, when there are candidates.
	s, _ = slot.Nominated(s, nominates(1, 1, four, "", "a"))
	s, _ = slot.Nominated(s, nominates(2, 1, four, "", "a"))
	same(t, "a candidate", fmt.Sprint(s.Nominator.Candidates, s.Machine.Proposed), "[a]a")
	s, _ = slot.Prefer(s, "p")
	same(t, "the candidate counts", s.Machine.Proposed, "a")
	x := trust(2, 0, 1, 2, 3)
	s, e = slot.Declare(s, x)
	same(t, "Declare", fmt.Sprint(s.Nominator.Trust, s.Machine.Trust, e), fmt.Sprint(x, x, 0))
	same(t, "right", slot.Check(s), true)
	s.Machine.Trust.Nodes[0], s.Nominator.Trust.Nodes[1] = 7, 7
	same(t, "no shared memory", fmt.Sprint(x.Nodes), "[0 1 2 3]")
	got, e = slot.Declare(begin(1, four, "", 0), trust(1, 10))
	same(t, "not valid", fmt.Sprint(got, e), fmt.Sprint(api.Slot{}, api.ErrNode))
	got, _ = slot.Declare(begin(led(four, 0), four, "own", 0), trust(1, 0))
	same(t, "declares and decides", show(got), "[own] 3{1 own}own {0 -1}1 2 trueown")
}

// P29.3
func TestTick(t *testing.T) {
	s := begin(1, trust(2, 0, 5), "", 0)
	tick := func(now int, want string) {
		t.Helper()
		before := fmt.Sprint(s)
		next, e := slot.Tick(s, now)
		same(t, fmt.Sprint(now), fmt.Sprint(show(next), " ", next.Nominator.Round, " ", e), want+" 0")
		same(t, "the argument stays", fmt.Sprint(s), before)
		s = next
	}
	tick(1, "[] 1{0 } {0 -1}1 2 false 1")
	tick(2, "[] 1{0 } {0 -1}2 5 false 2")
	tick(4, "[] 1{0 } {0 -1}2 5 false 2")
	tick(5, "[] 1{0 } {0 -1}3 9 false 3")
	s.Round = 20
	tick(200, "[] 1{0 } {0 -1}21 212 false 4")
	s.Round, s.Nominator.Round, s.Next = api.MaxRounds, 999, 200
	tick(200, "[] 1{0 } {0 -1}1000 212 false 1000")
	s.Next = 200
	tick(200, "[] 1{0 } {0 -1}1000 212 false 1000")
	for _, now := range []int{-1, 201, math.MaxInt} {
		got, e := slot.Tick(s, now)
		same(t, "no time", fmt.Sprint(got, e), fmt.Sprint(api.Slot{}, api.ErrInvalid))
	}
	// The timer, beside the rounds: a quorum that has the ballot 1 together.
	x := trust(2, 0, 1)
	s = begin(led(x, 1), x, "", 0)
	s, _ = slot.Prefer(s, "p")
	e1 := says(1, 1, s.Machine.Slot, of(1, "q"), api.Ballot{})
	e1.Trust = x
	s, _ = slot.Balloted(s, e1)
	tick(1, "[] 1{1 p}p {1 3}1 2 false 1")
	tick(2, "[] 1{1 p}p {1 3}2 5 false 2")
	tick(3, "[] 1{2 p}p {1 -1}2 5 false 2")
	tick(4, "[] 1{2 p}p {2 -1}2 5 false 2")
	// With candidates there are no further rounds.
	s = begin(1, trust(1, 0), "a", 0)
	tick(200, "[a] 3{1 a}a {1 -1}1 2 truea 1")
	// The timeout of a machine that cannot go on.
	s = begin(1, trust(2, 0, 1), "", 0)
	s, _ = slot.Prefer(s, "p")
	s.Machine.Ballot.Counter = 1000
	e1 = says(1, 1, 1, of(1000, "q"), api.Ballot{})
	e1.Trust = x
	s, _ = slot.Balloted(s, e1)
	s.Timer = api.Timer{Counter: 1000, Due: 1}
	tick(1, "[] 1{1000 p}p {1000 -1}1 2 false 1")
	// A round in which a leader's value is heard.
	number := led(four, 1)
	s = begin(number, four, "own", 0)
	for now := 0; len(s.Nominator.Votes) == 0; now++ {
		same(t, "in time", now < 200, true)
		s, _ = slot.Tick(s, now)
	}
	same(t, "its own value", fmt.Sprint(s.Nominator.Votes), "[own]")
}

// P29.3: a slot is settled where a round begins or a timer runs out, and only there.
func TestUnsettled(t *testing.T) {
	s := begin(1, trust(2, 0, 5), "", 0)
	s.Nominator.Accepts, s.Nominator.Candidates = []api.Value{"c"}, []api.Value{"c"}
	same(t, "right", slot.Check(s), true)
	next, _ := slot.Tick(s, 2)
	same(t, "not settled", next.Machine.Proposed, "")
	next, _ = slot.Prefer(s, "p")
	same(t, "settled", next.Machine.Proposed, "c")
	// The timer of a slot that is not settled runs out.
	x := trust(1, 0, 5)
	s = begin(1, x, "", 0)
	s.Machine.Ballot, s.Machine.Seq, s.Timer = of(1000, "p"), 1, api.Timer{Counter: 1000, Due: 1}
	s.Nominator.Accepts, s.Nominator.Candidates = []api.Value{"c"}, []api.Value{"c"}
	same(t, "right", slot.Check(s), true)
	next, _ = slot.Tick(s, 0)
	same(t, "not yet", next.Machine.Proposed, "")
	next, _ = slot.Tick(s, 1)
	same(t, "settled", next.Machine.Proposed, "c")
}

// P29.3: a round in which a candidate is found.
func TestCandidateByRound(t *testing.T) {
	three := trust(2, 0, 1, 2)
	s := begin(led(three, 2), three, "own", 0)
	s, _ = slot.Nominated(s, nominates(1, 1, three, "own", "own"))
	for now := 0; len(s.Nominator.Candidates) == 0; now++ {
		same(t, "not yet", s.Machine.Proposed, "")
		same(t, "in time", now < 200, true)
		s, _ = slot.Tick(s, now)
	}
	same(t, "proposed at once", s.Machine.Proposed, "own")
}

// P29.4
func TestLetters(t *testing.T) {
	s := begin(7, four, "v", 0)
	nominationLetter := api.Letter{Kind: api.LetterNomination, Slot: 7, Nomination: nomination.Say(s.Nominator)}
	same(t, "no ballot", fmt.Sprint(slot.Letters(s)), fmt.Sprint([]api.Letter{nominationLetter}))
	s, _ = slot.Prefer(s, "p")
	e, _ := machine.Message(s.Machine)
	l := slot.Letters(s)
	same(t, "both", fmt.Sprint(l), fmt.Sprint([]api.Letter{nominationLetter, {Kind: api.LetterEnvelope, Slot: 7, Envelope: e}}))
	l[0].Nomination.Trust.Nodes[0], l[1].Envelope.Trust.Nodes[0] = 9, 9
	same(t, "no shared memory", slot.Check(s), true)
	s = begin(1, trust(1, 0), "a", 0)
	e, _ = machine.Message(s.Machine)
	same(t, "done", fmt.Sprint(slot.Letters(s)), fmt.Sprint([]api.Letter{{Kind: api.LetterEnvelope, Slot: 1, Envelope: e}}))
}
