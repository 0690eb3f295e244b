package prepare_test

import (
	"fmt"
	"math"
	"math/rand"
	"testing"

	"trustquorum/api"
	"trustquorum/ballots"
	"trustquorum/configuration"
	"trustquorum/envelopes"
	"trustquorum/federated"
	"trustquorum/prepare"
)

func same[T comparable](t *testing.T, name string, got, want T) {
	t.Helper()
	if got != want {
		t.Errorf("%s: got %v, want %v", name, got, want)
	}
}

func trust(k int, nodes ...int) api.Trust { return api.Trust{Threshold: k, Nodes: nodes} }

func of(n int, v api.Value) api.Ballot { return api.Ballot{Counter: n, Value: v} }

var (
	none api.Ballot
	four = trust(3, 0, 1, 2, 3)
)

// says is an envelope of a node that votes for a ballot and has prepared two.
func says(node int, ballot, prepared, prime api.Ballot) api.Envelope {
	return api.Envelope{Node: node, Slot: 1, Seq: 1, Trust: four, Kind: api.KindPrepare, Ballot: ballot, Prepared: prepared, Prime: prime}
}

func votes(node int, b api.Ballot) api.Envelope { return says(node, b, none, none) }

func committed(node int, b api.Ballot) api.Envelope {
	return api.Envelope{Node: node, Slot: 1, Seq: 1, Trust: four, Kind: api.KindCommit, Ballot: b, Prepared: b, Low: b.Counter, High: b.Counter}
}

func external(node int, b api.Ballot) api.Envelope {
	return api.Envelope{Node: node, Slot: 1, Seq: 1, Trust: four, Kind: api.KindExternal, Ballot: b, Low: 1, High: 1}
}

func list(l ...api.Envelope) []api.Envelope { return l }

// P25.1
func TestView(t *testing.T) {
	second := votes(1, of(1, "a"))
	second.Trust = trust(1, 1)
	own := votes(0, of(1, "a"))
	own.Trust = trust(1, 9)
	l := list(own, api.Envelope{Node: 1, Trust: trust(1, 5)}, votes(1, of(1, "a")), second, votes(7, of(1, "a")))
	undeclared := func(from, to int) string {
		s := ""
		for k := from; k <= to; k++ {
			s += fmt.Sprint(k, ": -\n")
		}
		return s
	}
	all := "3 of (0, 1, 2, 3)\n"
	same(t, "View", configuration.Text(prepare.View(0, trust(1, 0), l)), "0: 1 of (0)\n1: "+all+undeclared(2, 6)+"7: "+all+undeclared(8, 9))
	same(t, "View", configuration.Text(prepare.View(9, four, nil)), undeclared(0, 8)+"9: "+all)
	for _, node := range []int{-1, 10, math.MaxInt} {
		same(t, "no node", configuration.Text(prepare.View(node, four, l)), undeclared(0, 9))
		same(t, "no node", prepare.Accepts(node, four, l, of(1, "a")) || prepare.Confirms(node, four, l, of(1, "a")), false)
		same(t, "no node", prepare.Next(node, four, l, none, none, ""), none)
		same(t, "no node", prepare.Highest(node, four, l, none), none)
	}
	odd := prepare.View(2, trust(0), nil)
	same(t, "its trust, whatever it is", fmt.Sprint(odd.Members[2]), fmt.Sprint(api.Member{Declared: true, Trust: trust(0)}))
	x := trust(1, 0)
	c := prepare.View(0, x, l)
	c.Members[0].Trust.Nodes[0], c.Members[1].Trust.Nodes[0] = 8, 8
	same(t, "no shared memory", fmt.Sprint(x, l[2].Trust), fmt.Sprint(trust(1, 0), trust(3, 0, 1, 2, 3)))
}

// P25.2
func TestRules(t *testing.T) {
	a, b := of(2, "a"), of(2, "b")
	for name, c := range map[string]struct {
		l                []api.Envelope
		b                api.Ballot
		accept, confirms bool
	}{
		"two votes":            {list(votes(0, a), votes(1, a)), a, false, false},
		"three votes":          {list(votes(0, a), votes(1, a), votes(2, a)), a, true, false},
		"votes of more":        {list(votes(0, of(3, "a")), votes(1, a), votes(2, of(9, "a"))), a, true, false},
		"without itself":       {list(votes(1, a), votes(2, a), votes(3, a)), a, false, false},
		"for others":           {list(votes(0, b), votes(1, a), votes(2, a), votes(3, a)), a, false, false},
		"blocked":              {list(votes(0, b), says(1, b, a, none), says(2, b, a, none)), a, true, false},
		"one is too few":       {list(votes(0, b), says(1, b, a, none)), a, false, false},
		"votes and accepts":    {list(votes(0, a), votes(1, a), says(2, b, a, none)), a, true, false},
		"three accepts":        {list(says(0, b, a, none), says(1, b, a, none), says(2, b, a, none)), a, true, true},
		"two accepts":          {list(says(0, b, a, none), says(1, b, a, none), votes(2, a)), a, true, false},
		"by Prime":             {list(says(0, b, of(5, "c"), of(4, "b")), says(1, b, a, none), says(2, b, a, none)), a, true, true},
		"others":               {list(committed(1, of(3, "a")), external(2, of(1, "a"))), a, true, false},
		"others, with itself":  {list(says(0, a, a, none), committed(1, of(3, "a")), external(2, of(1, "a"))), a, true, true},
		"another value":        {list(votes(0, a), committed(1, of(3, "b")), external(2, of(1, "b"))), a, false, false},
		"not valid":            {list(votes(0, a), votes(1, a), votes(2, of(0, "a"))), of(0, "a"), false, false},
		"nothing":              {list(votes(0, a), votes(1, a), votes(2, a)), none, false, false},
		"the second of a node": {list(votes(0, a), votes(1, a), votes(2, b), votes(2, a)), a, true, false},
	} {
		same(t, name, prepare.Accepts(0, four, c.l, c.b), c.accept)
		same(t, name, prepare.Confirms(0, four, c.l, c.b), c.confirms)
	}
	same(t, "alone", prepare.Accepts(0, trust(1, 0), list(votes(0, a)), a), true)
}

// P25.3
func TestNext(t *testing.T) {
	voting := func(b api.Ballot) []api.Envelope { return list(votes(0, b), votes(1, b), votes(2, b)) }
	external2 := list(external(1, of(1, "a")), external(2, of(1, "a")), votes(0, of(3, "a")))
	mixed := list(says(0, of(5, "a"), none, none), says(1, of(4, "a"), of(3, "b"), none), says(2, of(6, "a"), of(3, "b"), none))
	for name, c := range map[string]struct {
		l               []api.Envelope
		prepared, prime api.Ballot
		value           api.Value
		want            api.Ballot
	}{
		"votes":                       {voting(of(2, "a")), none, none, "", of(2, "a")},
		"has it already":              {voting(of(2, "a")), of(2, "a"), none, "", none},
		"has a greater one":           {voting(of(2, "a")), of(3, "a"), none, "", none},
		"has another one":             {voting(of(2, "a")), of(3, "b"), none, "", of(2, "a")},
		"prime covers it":             {voting(of(2, "a")), of(3, "b"), of(2, "a"), "", none},
		"prime is greater":            {voting(of(2, "a")), of(4, "b"), of(3, "c"), "", none},
		"its value":                   {voting(of(2, "a")), none, none, "a", of(2, "a")},
		"another value":               {voting(of(2, "a")), none, none, "b", none},
		"the greatest":                {mixed, none, none, "", of(4, "a")},
		"the greatest of the value":   {mixed, none, none, "b", of(3, "b")},
		"the next one":                {mixed, of(4, "a"), none, "", of(3, "b")},
		"and then none":               {mixed, of(4, "a"), of(3, "b"), "", none},
		"infinite":                    {external2, none, none, "", of(api.Infinity, "a")},
		"MaxCounter counts as that":   {external2, of(1000, "a"), none, "", none},
		"less does not":               {external2, of(999, "a"), none, "", of(api.Infinity, "a")},
		"prime with MaxCounter, too":  {external2, of(1000, "b"), of(1000, "a"), "", none},
		"prime with less":             {external2, of(1000, "b"), of(999, "a"), "", of(api.Infinity, "a")},
		"nothing at all":              {nil, none, none, "", none},
		"too few":                     {voting(of(2, "a"))[:2], none, none, "", none},
		"only ballots of the list":    {list(votes(0, of(3, "a")), votes(1, of(4, "a")), votes(2, of(5, "a"))), none, none, "", of(3, "a")},
		"a Counter that is far above": {external2, of(5000, "a"), none, "", none},
	} {
		same(t, name, prepare.Next(0, four, c.l, c.prepared, c.prime, c.value), c.want)
	}
}

// P25.3
func TestHighest(t *testing.T) {
	l := list(says(0, of(5, "a"), of(4, "a"), of(3, "b")), says(1, of(4, "a"), of(3, "a"), none), says(2, of(6, "a"), of(5, "a"), none))
	ext := list(says(0, of(5, "a"), of(4, "a"), none), external(1, of(1, "a")), external(2, of(1, "a")))
	for name, c := range map[string]struct {
		l     []api.Envelope
		above api.Ballot
		want  api.Ballot
	}{
		"the greatest":            {l, none, of(3, "a")},
		"the same":                {l, of(3, "a"), none},
		"less":                    {l, of(2, "b"), of(3, "a")},
		"greater":                 {l, of(4, "a"), none},
		"externals":               {ext, none, of(4, "a")},
		"not Infinity":            {list(external(0, of(1, "a")), external(1, of(1, "a")), external(2, of(1, "a"))), none, none},
		"not Infinity, but less":  {list(external(0, of(1, "a")), external(1, of(1, "a")), committed(2, of(7, "a"))), none, of(7, "a")},
		"votes are not enough":    {list(votes(0, of(1, "a")), votes(1, of(1, "a")), votes(2, of(1, "a"))), none, none},
		"MaxCounter":              {list(says(0, of(1, "a"), of(1000, "a"), none), external(1, of(1, "a")), external(2, of(1, "a"))), none, of(1000, "a")},
		"more than it has itself": {list(says(0, of(5, "a"), of(2, "a"), none), says(1, of(5, "a"), of(5, "a"), none), says(2, of(5, "a"), of(5, "a"), none)), none, of(2, "a")},
		"nothing":                 {nil, none, none},
	} {
		same(t, name, prepare.Highest(0, four, c.l, c.above), c.want)
	}
}

// P25.4
func TestJoin(t *testing.T) {
	for _, c := range []struct{ prepared, prime, b, wantPrepared, wantPrime api.Ballot }{
		{of(2, "a"), none, of(3, "b"), of(3, "b"), of(2, "a")},
		{none, none, of(3, "b"), of(3, "b"), none},
		{none, of(1, "c"), of(3, "b"), of(3, "b"), of(1, "c")},
		{of(2, "a"), none, of(3, "a"), of(3, "a"), none},
		{of(2, "a"), of(1, "b"), of(3, "a"), of(3, "a"), of(1, "b")},
		{of(2, "a"), of(1, "b"), of(3, "b"), of(3, "b"), of(2, "a")},
		{of(2, "a"), of(1, "b"), of(3, "c"), of(3, "c"), of(2, "a")},
		{of(2, "a"), of(1, "a"), of(3, "a"), of(3, "a"), none},
		{of(4, "a"), none, of(3, "b"), of(4, "a"), of(3, "b")},
		{of(4, "a"), of(2, "c"), of(3, "b"), of(4, "a"), of(3, "b")},
		{of(4, "a"), of(3, "c"), of(3, "b"), of(4, "a"), of(3, "c")},
		{of(4, "a"), of(3, "b"), of(3, "b"), of(4, "a"), of(3, "b")},
		{of(4, "a"), none, of(3, "a"), of(4, "a"), none},
		{of(4, "a"), of(2, "b"), of(3, "a"), of(4, "a"), of(2, "b")},
		{of(4, "a"), of(2, "b"), of(4, "a"), of(4, "a"), of(2, "b")},
		{of(4, "a"), of(2, "b"), none, of(4, "a"), of(2, "b")},
		{none, none, none, none, none},
		{of(4, "b"), none, of(4, "a"), of(4, "b"), of(4, "a")},
		{of(4, "a"), none, of(4, "b"), of(4, "b"), of(4, "a")},
	} {
		prepared, prime := prepare.Join(c.prepared, c.prime, c.b)
		same(t, fmt.Sprint(c), prepared, c.wantPrepared)
		same(t, fmt.Sprint(c), prime, c.wantPrime)
	}
}

// The consequences of the chapter, and the definitions.
func TestConsequences(t *testing.T) {
	r := rand.New(rand.NewSource(25))
	ballot := func() api.Ballot {
		if r.Intn(4) == 0 {
			return none
		}
		return of(1+r.Intn(4), string(rune('a'+r.Intn(3))))
	}
	right := func(p, q api.Ballot) bool {
		return q == none || p != none && ballots.Less(q, p) && !ballots.Compatible(p, q)
	}
	for range 5000 {
		p, q, b := ballot(), ballot(), ballot()
		if !right(p, q) {
			continue
		}
		p2, q2 := prepare.Join(p, q, b)
		same(t, fmt.Sprint(p, q, b), right(p2, q2), true)
		for range 10 {
			if x := ballot(); ballots.Prepares(p, q, x) {
				same(t, fmt.Sprint(p, q, b, x), ballots.Prepares(p2, q2, x), true)
			}
		}
		if b != none {
			same(t, fmt.Sprint(p, q, b), ballots.Prepares(p2, q2, b) || ballots.Prepares(p, q, b) || ballots.Less(b, p2), true)
		}
	}
	for range 300 {
		var l []api.Envelope
		for node := range 4 {
			if e := says(node, ballot(), ballot(), ballot()); r.Intn(8) > 0 {
				l = append(l, e)
			}
		}
		view := prepare.View(0, four, l)
		var best, highest api.Ballot
		prepared, prime := ballot(), none
		for _, b := range envelopes.Ballots(l) {
			v, a := 0, 0
			for _, e := range l {
				if envelopes.AcceptsPrepare(e, b) {
					a |= 1 << e.Node
				}
				if envelopes.VotesPrepare(e, b) {
					v |= 1 << e.Node
				}
			}
			accept, confirm := federated.Accepts(view, 0, v|a, a), federated.Confirms(view, 0, a)
			same(t, "Accepts", prepare.Accepts(0, four, l, b), accept)
			same(t, "Confirms", prepare.Confirms(0, four, l, b), confirm)
			if accept && !ballots.Prepares(prepared, prime, b) {
				best = ballots.Greatest([]api.Ballot{best, b})
			}
			if confirm {
				highest = ballots.Greatest([]api.Ballot{highest, b})
			}
		}
		same(t, "Next", prepare.Next(0, four, l, prepared, prime, ""), best)
		same(t, "Highest", prepare.Highest(0, four, l, none), highest)
	}
}
