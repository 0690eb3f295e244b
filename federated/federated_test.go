package federated_test

import (
	"fmt"
	"math"
	"math/rand"
	"testing"

	"trustquorum/api"
	"trustquorum/blocking"
	"trustquorum/closure"
	"trustquorum/configuration"
	"trustquorum/deletion"
	"trustquorum/federated"
	"trustquorum/intact"
	"trustquorum/intersection"
	"trustquorum/nodeset"
)

func same[T comparable](t *testing.T, name string, got, want T) {
	t.Helper()
	if got != want {
		t.Errorf("%s: got %v, want %v", name, got, want)
	}
}

// uniform is a configuration of n members with the threshold k.
func uniform(n, k int) api.Config {
	var c api.Config
	for range n {
		c.Members = append(c.Members, api.Member{Declared: true, Trust: api.Trust{Threshold: k, Nodes: nodeset.Nodes(1<<n - 1)}})
	}
	return c
}

var noSets = []int{-1, 1024, math.MinInt, math.MaxInt}

// P18.1
func TestRules(t *testing.T) {
	four := uniform(4, 3)
	chain, _, _ := configuration.Parse("0: 2 of (0, 1)\n1: 2 of (1, 2)\n2: 1 of (2)\n3: -\n4: 1 of (3)")
	for _, c := range []struct {
		c                  api.Config
		v, votes, accepts  int
		accept, confirming bool
	}{
		{four, 0, 7, 0, true, false},
		{four, 3, 7, 0, false, false},
		{four, 0, 0, 6, true, false},
		{four, 3, 0, 6, true, false},
		{four, 0, 0, 2, false, false},
		{four, 0, 0, 3, false, false},
		{four, 0, 0, 7, true, true},
		{four, 3, 0, 7, true, false},
		{four, 0, 3, 4, true, false},
		{four, 0, 0, 15, true, true},
		{four, 0, 1023, 0, true, false},
		{four, 4, 1023, 1023, false, false},
		{four, -1, 1023, 1023, false, false},
		{four, 10, 1023, 1023, false, false},
		{four, math.MaxInt, 1023, 1023, false, false},
		{chain, 0, 3, 0, false, false},
		{chain, 0, 7, 0, true, false},
		{chain, 0, 0, 7, true, true},
		{chain, 1, 6, 0, true, false},
		{chain, 2, 4, 0, true, false},
		{chain, 3, 1023, 1023, false, false},
		{chain, 4, 16, 0, false, false},
		{chain, 4, 24, 0, false, false},
		{chain, 4, 0, 8, true, false},
		{chain, 4, 0, 24, true, false},
	} {
		same(t, fmt.Sprint(c.v, c.votes, c.accepts, " accepts"), federated.Accepts(c.c, c.v, c.votes, c.accepts), c.accept)
		same(t, fmt.Sprint(c.v, c.votes, c.accepts, " confirms"), federated.Confirms(c.c, c.v, c.accepts), c.confirming)
	}
	for _, s := range noSets {
		same(t, "no set", federated.Accepts(four, 0, s, 15), false)
		same(t, "no set", federated.Accepts(four, 0, 15, s), false)
		same(t, "no set", federated.Confirms(four, 0, s), false)
	}
}

func trust(k int, nodes ...int) api.Trust { return api.Trust{Threshold: k, Nodes: nodes} }

var (
	x = api.Claim{Topic: 0, Value: 1}
	y = api.Claim{Topic: 0, Value: 2}
	z = api.Claim{Topic: 3, Value: 15}
)

func message(node, seq int, t api.Trust, votes, accepts []api.Claim) api.Message {
	return api.Message{Node: node, Seq: seq, Trust: t, Votes: votes, Accepts: accepts}
}

func list(l ...api.Claim) []api.Claim { return l }

// broken has messages that are not plain.
var broken = []api.Message{
	{},
	message(-1, 1, trust(1, 0), nil, nil),
	message(10, 1, trust(1, 0), nil, nil),
	message(math.MaxInt, 1, trust(1, 0), nil, nil),
	message(0, 0, trust(1, 0), list(x), list(x)),
	message(0, -1, trust(1, 0), list(x), list(x)),
	message(0, 1, trust(0, 0), list(x), list(x)),
	message(0, 1, trust(1, 10), list(x), list(x)),
	message(0, 1, trust(1, 0), list(y, x), list(x)),
	message(0, 1, trust(1, 0), list(x, x), list(x)),
	message(0, 1, trust(1, 0), list(x), list(y, x)),
	message(0, 1, trust(1, 0), list(x), list(x, api.Claim{Topic: 8})),
}

// P18.2
func TestPlain(t *testing.T) {
	for _, m := range []api.Message{message(0, 1, trust(1, 0), nil, nil), message(9, math.MaxInt, trust(1, 5), list(x, y, z), list(x, y))} {
		same(t, "plain", federated.Plain(m), true)
	}
	for _, m := range broken {
		same(t, fmt.Sprint(m), federated.Plain(m), false)
	}
}

// P18.3
func TestView(t *testing.T) {
	l := []api.Message{message(1, 5, trust(1, 1), nil, nil), message(1, 2, trust(1, 2), nil, nil), message(1, 9, trust(0), nil, nil), message(0, 9, trust(1, 9), nil, nil), message(9, 1, trust(2, 8, 9), nil, nil)}
	want := func(own string) string {
		s := "0: " + own + "\n1: 1 of (2)\n"
		for k := 2; k < 9; k++ {
			s += fmt.Sprint(k, ": -\n")
		}
		return s + "9: 2 of (8, 9)\n"
	}
	same(t, "View", configuration.Text(federated.View(0, trust(1, 0), l)), want("1 of (0)"))
	same(t, "its trust is not valid", configuration.Text(federated.View(0, trust(0), l)), want("-"))
	for _, v := range []int{-1, 10, math.MinInt} {
		same(t, "no node", configuration.Text(federated.View(v, trust(1, 0), l)), want("1 of (9)"))
	}
	same(t, "empty", configuration.Declared(federated.View(7, trust(1, 0), append(broken, message(7, 1, trust(1, 1), nil, nil)))), 128)
	got := federated.View(0, trust(1, 0), l)
	got.Members[1].Trust.Nodes[0], got.Members[9].Trust.Nodes[0] = 5, 5
	same(t, "no shared memory", fmt.Sprint(l[1].Trust, l[4].Trust), fmt.Sprint(trust(1, 2), trust(2, 8, 9)))
}

// P18.3
func TestVotes(t *testing.T) {
	l := append([]api.Message{
		message(1, 1, trust(1, 0), list(x, z), list(y)),
		message(2, 1, trust(1, 0), list(x), nil),
		message(2, 2, trust(1, 0), nil, list(x)),
		message(5, 2, trust(1, 0), nil, list(y, z)),
	}, broken...)
	for _, c := range []struct {
		x               api.Claim
		votes, accepted int
	}{{x, 6, 4}, {y, 0, 34}, {z, 2, 32}, {api.Claim{}, 0, 0}, {api.Claim{Topic: 8}, 0, 0}, {api.Claim{Topic: -1, Value: 99}, 0, 0}} {
		same(t, fmt.Sprint(c.x), federated.Votes(l, c.x), c.votes)
		same(t, fmt.Sprint(c.x), federated.Accepted(l, c.x), c.accepted)
	}
	same(t, "empty", federated.Votes(nil, x), 0)
}

// The consequences of the chapter.
func TestConsequences(t *testing.T) {
	r := rand.New(rand.NewSource(18))
	for range 60 {
		n := 2 + r.Intn(3)
		var c api.Config
		for range n {
			x := api.Trust{Nodes: r.Perm(n)[:1+r.Intn(n)]}
			x.Threshold = 1 + r.Intn(len(x.Nodes))
			c.Members = append(c.Members, api.Member{Declared: true, Trust: x})
		}
		for range 60 {
			v, votes, accepts := r.Intn(n), r.Intn(1<<n), r.Intn(1<<n)
			accept, confirm := federated.Accepts(c, v, votes, accepts), federated.Confirms(c, v, accepts)
			greatest := closure.Greatest(c, votes|accepts)
			same(t, "Accepts", accept, blocking.Blocks(c, v, accepts) || nodeset.Has(greatest, v))
			same(t, "who may confirm may accept", confirm && !federated.Accepts(c, v, 0, accepts), false)
			if accept {
				same(t, "more nodes", federated.Accepts(c, v, votes|r.Intn(1<<n), accepts|r.Intn(1<<n)), true)
			}
			if confirm {
				same(t, "more nodes", federated.Confirms(c, v, accepts|r.Intn(1<<n)), true)
			}
			ill := r.Intn(1 << n)
			good, _ := intact.Of(c, c, ill)
			for _, w := range nodeset.Nodes(good) {
				same(t, "by ill ones alone", federated.Accepts(c, w, ill, ill), false)
			}
			holds, _ := intersection.Holds(deletion.Delete(c, ill))
			w, others := r.Intn(n), r.Intn(1<<n)
			if holds && confirm && federated.Confirms(c, w, others) && !nodeset.Has(ill, v) && !nodeset.Has(ill, w) {
				same(t, "a node in common", accepts&others&^ill != 0, true)
			}
		}
	}
}
