package commit_test

import (
	"fmt"
	"math"
	"math/rand"
	"testing"

	"trustquorum/api"
	"trustquorum/commit"
	"trustquorum/envelopes"
	"trustquorum/federated"
	"trustquorum/prepare"
)

func same[T comparable](t *testing.T, name string, got, want T) {
	t.Helper()
	if got != want {
		t.Errorf("%s: got %v, want %v", name, got, want)
	}
}

func trust(k int, nodes ...int) api.Trust { return api.Trust{Threshold: k, Nodes: nodes} }

func of(n int, v api.Value) api.Ballot { return api.Ballot{Counter: n, Value: v} }

var (
	none api.Ballot
	four = trust(3, 0, 1, 2, 3)
)

// votes is an envelope that votes for the commits of a range.
func votes(node int, v api.Value, low, high int) api.Envelope {
	return api.Envelope{Node: node, Slot: 1, Seq: 1, Trust: four, Kind: api.KindPrepare, Ballot: of(high, v), Prepared: of(high, v), Low: low, High: high}
}

// accepts is an envelope that has accepted the commits of a range.
func accepts(node int, v api.Value, low, high int) api.Envelope {
	return api.Envelope{Node: node, Slot: 1, Seq: 1, Trust: four, Kind: api.KindCommit, Ballot: of(high, v), Prepared: of(high, v), Low: low, High: high}
}

// external is an envelope that has confirmed the commits of a range.
func external(node int, v api.Value, low, high int) api.Envelope {
	return api.Envelope{Node: node, Slot: 1, Seq: 1, Trust: four, Kind: api.KindExternal, Ballot: of(high, v), Low: low, High: high}
}

func list(l ...api.Envelope) []api.Envelope { return l }

// P26.1
func TestRules(t *testing.T) {
	for name, c := range map[string]struct {
		l                []api.Envelope
		low, high        int
		accept, confirms bool
	}{
		"three votes":         {list(votes(0, "a", 2, 5), votes(1, "a", 2, 5), votes(2, "a", 1, 6)), 2, 5, true, false},
		"too low":             {list(votes(0, "a", 2, 5), votes(1, "a", 2, 5), votes(2, "a", 1, 6)), 1, 5, false, false},
		"too high":            {list(votes(0, "a", 2, 5), votes(1, "a", 2, 5), votes(2, "a", 1, 6)), 2, 6, false, false},
		"two votes":           {list(votes(0, "a", 2, 5), votes(1, "a", 2, 5)), 2, 5, false, false},
		"another value":       {list(votes(0, "a", 2, 5), votes(1, "a", 2, 5), votes(2, "b", 2, 5)), 2, 5, false, false},
		"without itself":      {list(votes(1, "a", 2, 5), votes(2, "a", 2, 5), votes(3, "a", 2, 5)), 2, 5, false, false},
		"blocked":             {list(accepts(1, "a", 2, 5), accepts(2, "a", 3, 5)), 3, 5, true, false},
		"blocked, not lower":  {list(accepts(1, "a", 2, 5), accepts(2, "a", 3, 5)), 2, 5, false, false},
		"accepts vote higher": {list(votes(0, "a", 2, 9), accepts(1, "a", 2, 5), accepts(2, "a", 3, 5)), 6, 9, true, false},
		"three accepts":       {list(accepts(0, "a", 2, 5), accepts(1, "a", 2, 5), accepts(2, "a", 3, 5)), 3, 5, true, true},
		"not so low":          {list(accepts(0, "a", 2, 5), accepts(1, "a", 2, 5), accepts(2, "a", 3, 5)), 2, 5, false, false},
		"votes for high ones": {list(accepts(0, "a", 2, 5), accepts(1, "a", 2, 5), accepts(2, "a", 2, 5)), 2, 6, true, false},
		"externals":           {list(accepts(0, "a", 2, 9), external(1, "a", 2, 5), external(2, "a", 3, 5)), 3, 9, true, true},
		"no range":            {list(accepts(0, "a", 2, 5), accepts(1, "a", 2, 5), accepts(2, "a", 2, 5)), 5, 4, false, false},
		"from 0":              {list(accepts(0, "a", 1, 5), accepts(1, "a", 1, 5), accepts(2, "a", 1, 5)), 0, 4, false, false},
	} {
		same(t, name, commit.Accepts(0, four, c.l, "a", c.low, c.high), c.accept)
		same(t, name, commit.Confirms(0, four, c.l, "a", c.low, c.high), c.confirms)
		same(t, name, commit.Accepts(-1, four, c.l, "a", c.low, c.high), false)
		same(t, name, commit.Confirms(10, four, c.l, "a", c.low, c.high), false)
		same(t, name, commit.Accepts(0, four, c.l, "", c.low, c.high), false)
	}
}

// P26.2
func TestFirst(t *testing.T) {
	twoValues := list(accepts(1, "a", 2, 5), accepts(2, "a", 3, 5), accepts(3, "b", 1, 7), external(4, "b", 4, 7))
	for i := range twoValues {
		twoValues[i].Trust = trust(1, 9)
	}
	any := trust(4, 1, 2, 3, 4) // each pair blocks, each node blocks
	for name, c := range map[string]struct {
		trust           api.Trust
		l               []api.Envelope
		prepared, prime api.Ballot
		want            string
	}{
		"nothing":                {four, nil, none, none, " 0 0 false"},
		"votes":                  {four, list(votes(0, "a", 2, 5), votes(1, "a", 3, 5), votes(2, "a", 1, 6)), none, none, "a 3 5 true"},
		"votes, all":             {four, list(votes(0, "a", 2, 5), votes(1, "a", 2, 5), votes(2, "a", 1, 6)), none, none, "a 2 5 true"},
		"blocked":                {four, list(accepts(1, "a", 2, 5), accepts(2, "a", 3, 5)), none, none, "a 3 5 true"},
		"blocked, less high":     {four, list(accepts(1, "a", 2, 5), accepts(2, "a", 3, 4)), none, none, "a 3 4 true"},
		"apart":                  {four, list(accepts(1, "a", 2, 3), accepts(2, "a", 4, 5)), none, none, " 0 0 false"},
		"the greatest ballot":    {any, twoValues, none, none, "b 1 7 true"},
		"aborted":                {any, twoValues, of(8, "a"), none, "a 2 5 true"},
		"high is aborted":        {any, twoValues, of(7, "c"), of(6, "a"), " 0 0 false"},
		"low is aborted":         {any, twoValues, of(4, "a"), none, "b 4 7 true"},
		"low is aborted, more":   {any, twoValues, of(5, "a"), none, "b 7 7 true"},
		"low by prime":           {any, twoValues, of(9, "b"), of(1, "c"), "b 4 7 true"},
		"both by prime":          {any, twoValues, of(9, "b"), of(4, "c"), "b 7 7 true"},
		"aborted, but a is left": {any, twoValues, of(9, "a"), of(8, "c"), " 0 0 false"},
		"a is left":              {any, twoValues, of(9, "a"), of(1, "c"), "a 2 5 true"},
		"equal, greater value":   {any, list(accepts(1, "a", 2, 5), accepts(2, "aa", 3, 5), accepts(3, "b", 4, 5)), none, none, "aa 3 5 true"},
	} {
		value, low, high, ok := commit.First(0, c.trust, c.l, c.prepared, c.prime)
		same(t, name, fmt.Sprint(value, " ", low, " ", high, " ", ok), c.want)
	}
}

// P26.3
func TestExtend(t *testing.T) {
	for name, c := range map[string]struct {
		l                   []api.Envelope
		low, high           int
		wantLow, wantHigh   int
		wantLow2, wantHigh2 int
	}{
		"nothing":             {nil, 3, 5, 3, 5, 3, 5},
		"higher":              {list(accepts(1, "a", 3, 7), accepts(2, "a", 3, 8)), 3, 5, 3, 7, 3, 7},
		"higher, by itself":   {list(accepts(0, "a", 3, 5), accepts(1, "a", 3, 7), accepts(2, "a", 3, 8)), 3, 5, 3, 8, 3, 8},
		"the same":            {list(accepts(0, "a", 3, 5), accepts(1, "a", 3, 5), accepts(2, "a", 3, 5)), 3, 5, 3, 5, 3, 5},
		"not less":            {list(accepts(0, "a", 3, 5), accepts(1, "a", 3, 4), accepts(2, "a", 3, 4)), 3, 5, 3, 5, 3, 5},
		"lower":               {list(accepts(0, "a", 3, 5), accepts(1, "a", 1, 5), accepts(2, "a", 2, 5)), 3, 5, 2, 5, 2, 5},
		"higher and lower":    {list(accepts(0, "a", 3, 5), accepts(1, "a", 1, 8), accepts(2, "a", 2, 8)), 3, 5, 2, 8, 2, 8},
		"jumps":               {list(accepts(1, "a", 7, 8), accepts(2, "a", 7, 8)), 3, 5, 7, 8, 7, 8},
		"does not jump":       {list(accepts(1, "a", 6, 8), accepts(2, "a", 6, 8)), 3, 5, 3, 8, 3, 8},
		"another value":       {list(accepts(1, "b", 6, 8), accepts(2, "b", 6, 8)), 3, 5, 3, 5, 3, 5},
		"not down any more":   {list(accepts(1, "a", 1, 5), accepts(2, "a", 6, 8), accepts(3, "a", 6, 8)), 3, 5, 3, 8, 3, 8},
		"down behind a jump":  {list(accepts(1, "a", 2, 9), accepts(2, "a", 7, 9), accepts(3, "a", 8, 9)), 3, 5, 7, 9, 7, 9},
		"lower, with its own": {list(accepts(0, "a", 4, 5), accepts(1, "a", 1, 5), external(2, "a", 2, 9), external(3, "a", 1, 9)), 4, 5, 2, 9, 2, 9},
	} {
		low, high := commit.Extend(0, four, c.l, "a", c.low, c.high)
		same(t, name, fmt.Sprint(low, high), fmt.Sprint(c.wantLow, c.wantHigh))
		low, high = commit.Extend(0, four, c.l, "a", low, high)
		same(t, name+" again", fmt.Sprint(low, high), fmt.Sprint(c.wantLow2, c.wantHigh2))
	}
	low, high := commit.Extend(0, four, list(accepts(1, "a", 3, 7), accepts(2, "a", 3, 8)), "a", math.MaxInt, math.MinInt)
	same(t, "any numbers", fmt.Sprint(low, high), "3 7")
}

// P26.4
func TestFinal(t *testing.T) {
	for name, c := range map[string]struct {
		l    []api.Envelope
		want string
	}{
		"nothing":          {nil, "0 0 false"},
		"the example":      {list(accepts(0, "a", 2, 5), accepts(1, "a", 2, 5), accepts(2, "a", 3, 5)), "3 5 true"},
		"the greatest":     {list(accepts(0, "a", 2, 5), accepts(1, "a", 2, 6), accepts(2, "a", 3, 4)), "3 4 true"},
		"one more accepts": {list(accepts(0, "a", 2, 5), accepts(1, "a", 2, 6), accepts(2, "a", 3, 4), accepts(3, "a", 1, 9)), "2 5 true"},
		"externals":        {list(accepts(0, "a", 2, 9), external(1, "a", 2, 5), external(2, "a", 3, 5)), "3 9 true"},
		"votes":            {list(accepts(0, "a", 2, 5), accepts(1, "a", 2, 5), votes(2, "a", 2, 5)), "0 0 false"},
		"another value":    {list(accepts(0, "b", 2, 5), accepts(1, "b", 2, 5), accepts(2, "b", 2, 5)), "0 0 false"},
		"without itself":   {list(accepts(1, "a", 2, 5), accepts(2, "a", 2, 5), accepts(3, "a", 2, 5)), "0 0 false"},
		"apart":            {list(accepts(0, "a", 2, 3), accepts(1, "a", 4, 5), accepts(2, "a", 6, 7)), "0 0 false"},
	} {
		low, high, ok := commit.Final(0, four, c.l, "a")
		same(t, name, fmt.Sprint(low, high, ok), c.want)
	}
	all := trust(3, 0, 1, 2)
	l := list(accepts(0, "a", 2, 5), accepts(1, "a", 3, 5), accepts(2, "a", 2, 5))
	for i := range l {
		l[i].Trust = all
	}
	low, high, ok := commit.Final(0, all, l, "a")
	same(t, "all of", fmt.Sprint(low, high, ok), "3 5 true")
}

// The consequences of the chapter, and the definitions.
func TestConsequences(t *testing.T) {
	r := rand.New(rand.NewSource(26))
	found := 0
	for range 1500 {
		var l []api.Envelope
		for node := range 4 {
			low := 1 + r.Intn(5)
			high := low + r.Intn(5)
			kind := []func(int, api.Value, int, int) api.Envelope{votes, accepts, external}[r.Intn(3)]
			if r.Intn(6) > 0 {
				l = append(l, kind(node, []string{"a", "a", "b"}[r.Intn(3)], low, high))
			}
		}
		view := prepare.View(0, four, l)
		set := func(low, high int, says func(api.Envelope, api.Value, int, int) bool) int {
			s := 0
			for _, e := range l {
				if says(e, "a", low, high) {
					s |= 1 << e.Node
				}
			}
			return s
		}
		for low := range 7 {
			for high := range 9 {
				v, a := set(low, high, envelopes.VotesCommit), set(low, high, envelopes.AcceptsCommit)
				same(t, "Accepts", commit.Accepts(0, four, l, "a", low, high), federated.Accepts(view, 0, v|a, a))
				same(t, "Confirms", commit.Confirms(0, four, l, "a", low, high), federated.Confirms(view, 0, a))
			}
		}
		low := 1 + r.Intn(5)
		high := low + r.Intn(5)
		newLow, newHigh := commit.Extend(0, four, l, "a", low, high)
		same(t, "never less", newHigh >= high, true)
		same(t, "left out", newLow > low && newLow <= high+1, false)
		value, low, high, ok := commit.First(0, four, l, of(1+r.Intn(6), "b"), none)
		if ok {
			found++
			same(t, "accepted", commit.Accepts(0, four, l, value, low, high), true)
		}
		low, high, ok = commit.Final(0, four, l, "a")
		if ok {
			same(t, "confirmed", commit.Confirms(0, four, l, "a", low, high), true)
		}
	}
	same(t, "some", found > 100, true)
}
