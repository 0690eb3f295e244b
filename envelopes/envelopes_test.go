package envelopes_test

import (
	"fmt"
	"math"
	"math/rand"
	"slices"
	"strings"
	"testing"

	"trustquorum/api"
	"trustquorum/ballots"
	"trustquorum/envelopes"
)

func same[T comparable](t *testing.T, name string, got, want T) {
	t.Helper()
	if got != want {
		t.Errorf("%s: got %v, want %v", name, got, want)
	}
}

func of(n int, v api.Value) api.Ballot { return api.Ballot{Counter: n, Value: v} }

var none api.Ballot

func envelope(kind int, ballot, prepared, prime api.Ballot, low, high int) api.Envelope {
	return api.Envelope{Node: 3, Slot: 1, Seq: 1, Trust: api.Trust{Threshold: 1, Nodes: []int{3}}, Kind: kind, Ballot: ballot, Prepared: prepared, Prime: prime, Low: low, High: high}
}

func prepare(ballot, prepared, prime api.Ballot, low, high int) api.Envelope {
	return envelope(api.KindPrepare, ballot, prepared, prime, low, high)
}

func commit(ballot, prepared api.Ballot, low, high int) api.Envelope {
	return envelope(api.KindCommit, ballot, prepared, none, low, high)
}

func external(ballot api.Ballot, low, high int) api.Envelope {
	return envelope(api.KindExternal, ballot, none, none, low, high)
}

// with changes an envelope.
func with(e api.Envelope, f func(*api.Envelope)) api.Envelope {
	f(&e)
	return e
}

var long = strings.Repeat("x", api.MaxBytes)

// P24.1
func TestValid(t *testing.T) {
	good := prepare(of(3, "b"), of(3, "b"), of(2, "a"), 2, 3)
	for name, e := range map[string]api.Envelope{
		"prepare":                   good,
		"nothing prepared":          prepare(of(1, "a"), none, none, 0, 0),
		"the greatest":              prepare(of(1000, long), of(api.Infinity, "b"), of(1000, "c"), 0, 0),
		"High without Low":          prepare(of(3, "a"), of(2, "a"), none, 0, 2),
		"High by Prime":             prepare(of(3, "a"), of(4, "c"), of(3, "b"), 0, 2),
		"High by Prime, its value":  prepare(of(3, "a"), of(4, "c"), of(3, "a"), 0, 3),
		"Low is not aborted":        prepare(of(5, "c"), of(5, "c"), of(3, "b"), 3, 5),
		"Prime is Less by value":    prepare(of(1, "z"), of(3, "b"), of(3, "a"), 0, 0),
		"commit":                    commit(of(3, "a"), of(3, "a"), 2, 3),
		"commit, another Counter":   commit(of(3, "a"), of(9, "a"), 2, 9),
		"commit, Prepared Infinity": commit(of(1, "a"), of(api.Infinity, "a"), 1, 1000),
		"commit, MaxCounter":        commit(of(1000, "a"), of(1000, "a"), 1000, 1000),
		"external":                  external(of(3, "a"), 1, 1000),
		"external, Infinity":        external(of(api.Infinity, "a"), 7, 7),
		"limits":                    with(good, func(e *api.Envelope) { e.Node, e.Slot, e.Seq = 9, api.MaxSlot, 1000000 }),
	} {
		same(t, name, envelopes.Valid(e), true)
	}
	for name, e := range map[string]api.Envelope{
		"zero":                          {},
		"Node":                          with(good, func(e *api.Envelope) { e.Node = 10 }),
		"negative Node":                 with(good, func(e *api.Envelope) { e.Node = -1 }),
		"Slot 0":                        with(good, func(e *api.Envelope) { e.Slot = 0 }),
		"Slot":                          with(good, func(e *api.Envelope) { e.Slot = api.MaxSlot + 1 }),
		"Seq 0":                         with(good, func(e *api.Envelope) { e.Seq = 0 }),
		"Seq":                           with(good, func(e *api.Envelope) { e.Seq = 1000001 }),
		"Trust":                         with(good, func(e *api.Envelope) { e.Trust = api.Trust{} }),
		"no Kind":                       with(good, func(e *api.Envelope) { e.Kind = 0 }),
		"Kind 4":                        with(good, func(e *api.Envelope) { e.Kind = 4 }),
		"no Ballot":                     prepare(none, none, none, 0, 0),
		"Ballot Infinity":               prepare(of(api.Infinity, "a"), none, none, 0, 0),
		"Ballot too great":              prepare(of(1001, "a"), none, none, 0, 0),
		"Ballot too long":               prepare(of(1, long+"x"), none, none, 0, 0),
		"Prepared":                      prepare(of(1, "a"), of(0, "b"), none, 0, 0),
		"Prime":                         prepare(of(1, "a"), of(2, "b"), of(0, "c"), 0, 0),
		"Prime without Prepared":        prepare(of(1, "a"), none, of(1, "b"), 0, 0),
		"Prime is greater":              prepare(of(1, "a"), of(2, "b"), of(3, "a"), 0, 0),
		"Prime is the same":             prepare(of(1, "a"), of(2, "b"), of(2, "b"), 0, 0),
		"Prime is compatible":           prepare(of(1, "a"), of(2, "b"), of(1, "b"), 0, 0),
		"High above Ballot":             prepare(of(3, "a"), of(4, "a"), none, 0, 4),
		"negative High":                 prepare(of(3, "a"), of(4, "a"), none, -2, -1),
		"negative Low":                  prepare(of(3, "a"), of(4, "a"), none, -1, 1),
		"Low above High":                prepare(of(3, "a"), of(3, "a"), none, 3, 2),
		"Low without High":              prepare(of(3, "a"), of(3, "a"), none, 1, 0),
		"High is not prepared":          prepare(of(3, "a"), of(2, "a"), none, 0, 3),
		"High is not prepared, another": prepare(of(3, "a"), of(3, "b"), none, 0, 3),
		"Prepared aborts Low":           prepare(of(3, "a"), of(4, "b"), of(3, "a"), 2, 3),
		"Prime aborts Low":              prepare(of(3, "a"), of(3, "a"), of(2, "b"), 1, 3),
		"Prime aborts Low, by value":    prepare(of(3, "a"), of(3, "a"), of(2, "aa"), 2, 3),
		"commit, Ballot Infinity":       commit(of(api.Infinity, "a"), of(api.Infinity, "a"), 1, 1),
		"commit, no Prepared":           commit(of(3, "a"), none, 0, 0),
		"commit, another value":         commit(of(3, "a"), of(3, "b"), 1, 3),
		"commit, Prepared wrong":        commit(of(3, "a"), of(1001, "a"), 1, 3),
		"commit, Prime":                 envelope(api.KindCommit, of(3, "a"), of(3, "a"), of(2, "b"), 2, 3),
		"commit, Low 0":                 commit(of(3, "a"), of(3, "a"), 0, 3),
		"commit, Low above High":        commit(of(3, "a"), of(3, "a"), 3, 2),
		"commit, High above Prepared":   commit(of(3, "a"), of(3, "a"), 1, 4),
		"commit, High above MaxCounter": commit(of(3, "a"), of(api.Infinity, "a"), 1, 1001),
		"external, Prepared":            envelope(api.KindExternal, of(3, "a"), of(3, "a"), none, 1, 3),
		"external, Prime":               envelope(api.KindExternal, of(3, "a"), none, of(3, "b"), 1, 3),
		"external, Low 0":               external(of(3, "a"), 0, 3),
		"external, Low above High":      external(of(3, "a"), 3, 2),
		"external, High too great":      external(of(3, "a"), 1, 1001),
		"external, no Ballot":           external(none, 1, 1),
		"external, wrong Ballot":        external(of(1001, "a"), 1, 1),
	} {
		same(t, name, envelopes.Valid(e), false)
		same(t, name, envelopes.Counter(e), 0)
		b := e.Ballot
		same(t, name, envelopes.VotesPrepare(e, b) || envelopes.AcceptsPrepare(e, b) || envelopes.VotesCommit(e, b.Value, 2, 2) || envelopes.AcceptsCommit(e, b.Value, 2, 2), false)
		same(t, name, len(envelopes.Ballots([]api.Envelope{e}))+len(envelopes.Values([]api.Envelope{e}))+len(envelopes.Bounds([]api.Envelope{e}, b.Value)), 0)
		l, ok := envelopes.Put([]api.Envelope{external(of(1, "a"), 1, 1)}, with(e, func(e *api.Envelope) { e.Seq++ }))
		if name != "Seq 0" && name != "zero" {
			same(t, name, fmt.Sprint(l, ok), fmt.Sprint([]api.Envelope{external(of(1, "a"), 1, 1)}, false))
		}
	}
}

// P24.2
func TestPrepare(t *testing.T) {
	p := prepare(of(3, "a"), of(5, "b"), of(4, "c"), 0, 0)
	c := commit(of(3, "a"), of(5, "a"), 1, 2)
	x := external(of(3, "a"), 1, 2)
	for _, q := range []struct {
		e             api.Envelope
		b             api.Ballot
		votes, accept bool
	}{
		{p, of(3, "a"), true, true},
		{p, of(2, "a"), true, true},
		{p, of(4, "a"), false, true},
		{p, of(4, "b"), false, true},
		{p, of(4, "d"), false, false},
		{p, of(5, "a"), false, false},
		{p, of(5, "b"), false, true},
		{p, of(6, "b"), false, false},
		{p, of(4, "c"), false, true},
		{p, of(5, "c"), false, false},
		{p, none, false, false},
		{prepare(of(3, "a"), of(3, "b"), none, 0, 0), of(1, "c"), false, false},
		{prepare(of(3, "a"), of(3, "b"), none, 0, 0), of(3, "a"), true, false},
		{prepare(of(3, "a"), none, none, 0, 0), none, false, false},
		{c, of(5, "a"), true, true},
		{c, of(6, "a"), true, false},
		{c, of(api.Infinity, "a"), true, false},
		{c, of(1, "b"), false, false},
		{c, none, false, false},
		{x, of(api.Infinity, "a"), true, true},
		{x, of(1, "a"), true, true},
		{x, of(1, "b"), false, false},
		{x, none, false, false},
	} {
		same(t, fmt.Sprint(q.e, q.b), envelopes.VotesPrepare(q.e, q.b), q.votes)
		same(t, fmt.Sprint(q.e, q.b), envelopes.AcceptsPrepare(q.e, q.b), q.accept)
	}
}

// P24.3
func TestCommit(t *testing.T) {
	p := prepare(of(4, "a"), of(4, "a"), none, 2, 3)
	c := commit(of(4, "a"), of(4, "a"), 2, 3)
	x := external(of(4, "a"), 2, 3)
	for _, q := range []struct {
		e             api.Envelope
		value         api.Value
		low, high     int
		votes, accept bool
	}{
		{p, "a", 2, 3, true, false},
		{p, "a", 2, 2, true, false},
		{p, "a", 3, 3, true, false},
		{p, "a", 2, 4, false, false},
		{p, "a", 1, 3, false, false},
		{p, "b", 2, 3, false, false},
		{p, "a", 3, 2, false, false},
		{prepare(of(4, "a"), of(4, "a"), none, 0, 3), "a", 2, 3, false, false},
		{prepare(of(4, "a"), of(4, "a"), none, 0, 3), "a", 0, 0, false, false},
		{prepare(of(4, "a"), of(4, "a"), none, 0, 3), "a", 1, 1, false, false},
		{c, "a", 2, 3, true, true},
		{c, "a", 3, 3, true, true},
		{c, "a", 2, 4, true, false},
		{c, "a", 4, 900, true, false},
		{c, "a", 1, 3, false, false},
		{c, "b", 2, 3, false, false},
		{c, "a", 3, 2, false, false},
		{x, "a", 2, 3, true, true},
		{x, "a", 2, 999999, true, true},
		{x, "a", 900, math.MaxInt, true, true},
		{x, "a", 1, 3, false, false},
		{x, "b", 2, 3, false, false},
		{x, "a", 4, 3, false, false},
		{external(of(4, "a"), 1, 3), "a", 0, 3, false, false},
		{external(of(4, "a"), 1, 3), "a", -1, 3, false, false},
		{external(of(4, "a"), 1, 3), "a", 1, 1, true, true},
	} {
		same(t, fmt.Sprint(q), envelopes.VotesCommit(q.e, q.value, q.low, q.high), q.votes)
		same(t, fmt.Sprint(q), envelopes.AcceptsCommit(q.e, q.value, q.low, q.high), q.accept)
	}
}

// P24.4
func TestLists(t *testing.T) {
	p := prepare(of(3, "a"), of(5, "b"), of(4, "c"), 0, 0)
	c := commit(of(3, "a"), of(5, "a"), 1, 2)
	x := external(of(3, "b"), 4, 9)
	same(t, "Counter", fmt.Sprint(envelopes.Counter(p), envelopes.Counter(c), envelopes.Counter(x)), fmt.Sprint(3, 3, api.Infinity))
	l := []api.Envelope{p, {}, c, x, p, prepare(of(3, "a"), none, none, 0, 0), prepare(of(7, "aa"), of(7, "aa"), none, 6, 7)}
	last := api.Infinity
	same(t, "Ballots", fmt.Sprint(envelopes.Ballots(l)), fmt.Sprint([]api.Ballot{of(last, "b"), of(last, "a"), of(7, "aa"), of(5, "b"), of(5, "a"), of(4, "c"), of(3, "a")}))
	same(t, "Values", fmt.Sprint(envelopes.Values(l)), "[a b aa]")
	same(t, "Bounds", fmt.Sprint(envelopes.Bounds(append(l, commit(of(3, "a"), of(8, "a"), 2, 8)), "a")), "[1 2 8]")
	same(t, "Bounds", fmt.Sprint(envelopes.Bounds(l, "b")), "[4 9]")
	same(t, "Bounds", fmt.Sprint(envelopes.Bounds(l, "aa")), "[6 7]")
	same(t, "Bounds", fmt.Sprint(envelopes.Bounds(l, "c")), "[]")
	same(t, "no Low", fmt.Sprint(envelopes.Bounds([]api.Envelope{prepare(of(3, "a"), of(3, "a"), none, 0, 3)}, "a")), "[]")
	same(t, "empty", fmt.Sprint(envelopes.Ballots(nil), envelopes.Values(nil), envelopes.Bounds(nil, "a")), "[] [] []")
}

// P24.5
func TestPut(t *testing.T) {
	at := func(node, seq int) api.Envelope {
		return with(external(of(1, "a"), 1, 1), func(e *api.Envelope) { e.Node, e.Seq = node, seq })
	}
	show := func(l []api.Envelope) string {
		s := ""
		for _, e := range l {
			s += fmt.Sprint(e.Node, ":", e.Seq, " ")
		}
		return s
	}
	for _, c := range []struct {
		l    []api.Envelope
		e    api.Envelope
		want string
		ok   bool
	}{
		{nil, at(3, 1), "3:1 ", true},
		{[]api.Envelope{at(1, 1), at(5, 1)}, at(3, 1), "1:1 3:1 5:1 ", true},
		{[]api.Envelope{at(1, 1), at(5, 1)}, at(0, 1), "0:1 1:1 5:1 ", true},
		{[]api.Envelope{at(1, 1), at(5, 1)}, at(9, 1), "1:1 5:1 9:1 ", true},
		{[]api.Envelope{at(1, 1), at(5, 1)}, at(5, 2), "1:1 5:2 ", true},
		{[]api.Envelope{at(1, 1), at(5, 2)}, at(5, 2), "1:1 5:2 ", false},
		{[]api.Envelope{at(1, 1), at(5, 3)}, at(5, 2), "1:1 5:3 ", false},
		{[]api.Envelope{at(5, 1), at(5, 3)}, at(5, 2), "5:2 5:3 ", true},
		{[]api.Envelope{at(5, 3), at(5, 1)}, at(5, 2), "5:3 5:1 ", false},
		{[]api.Envelope{at(7, 1), at(2, 1), at(6, 1)}, at(4, 2), "4:2 7:1 2:1 6:1 ", true},
		{[]api.Envelope{at(2, 1), at(99, -4)}, at(4, 2), "2:1 4:2 99:-4 ", true},
		{[]api.Envelope{at(2, 1)}, at(2, 0), "2:1 ", false},
		{nil, at(2, 0), "", false},
	} {
		before := show(c.l)
		l, ok := envelopes.Put(c.l, c.e)
		same(t, before, show(l), c.want)
		same(t, before, ok, c.ok)
		same(t, "the argument stays", show(c.l), before)
	}
	l := []api.Envelope{at(1, 1)}
	got, _ := envelopes.Put(l, at(2, 1))
	got[0].Trust.Nodes[0] = 8
	same(t, "no shared memory", l[0].Trust.Nodes[0], 3)
	e := at(2, 1)
	got, _ = envelopes.Put(nil, e)
	got[0].Trust.Nodes[0] = 8
	same(t, "no shared memory", e.Trust.Nodes[0], 3)
	l = []api.Envelope{at(1, 1), at(4, 0), at(1, 1), at(-1, 1), at(10, 1), at(0, 1)}
	same(t, "Set", envelopes.Set(l, []bool{true, true, false, true, true, true}), 19)
	same(t, "Set", envelopes.Set(l, []bool{false, true}), 16)
	same(t, "Set", envelopes.Set(l, nil), 0)
	same(t, "Set", envelopes.Set(l[:1], slices.Repeat([]bool{true}, 9)), 2)
}

// The consequences of the chapter.
func TestConsequences(t *testing.T) {
	r := rand.New(rand.NewSource(24))
	ballot := func() api.Ballot {
		if r.Intn(4) == 0 {
			return none
		}
		return of(1+r.Intn(4), string(rune('a'+r.Intn(3))))
	}
	n := 0
	for range 20000 {
		e := envelope(1+r.Intn(3), ballot(), ballot(), ballot(), r.Intn(4), r.Intn(4))
		if e.Kind == api.KindExternal {
			e.Prepared, e.Prime = none, none
		}
		if !envelopes.Valid(e) {
			continue
		}
		n++
		low, high, b := r.Intn(5), r.Intn(5), ballot()
		if envelopes.AcceptsCommit(e, e.Ballot.Value, low, high) {
			same(t, "votes", envelopes.VotesCommit(e, e.Ballot.Value, low, high), true)
		}
		for _, a := range []api.Ballot{ballot(), ballot()} {
			if envelopes.AcceptsPrepare(e, b) && ballots.Covers(b, a) && a != none {
				same(t, fmt.Sprint(e, b, a), envelopes.AcceptsPrepare(e, a), true)
			}
		}
	}
	same(t, "some", n > 1000, true)
}
