package network_test

import (
	"fmt"
	"math"
	"math/rand"
	"slices"
	"testing"

	"trustquorum/api"
	"trustquorum/network"
)

func same[T comparable](t *testing.T, name string, got, want T) {
	t.Helper()
	if got != want {
		t.Errorf("%s: got %v, want %v", name, got, want)
	}
}

func letter(slot int) api.Letter {
	return api.Letter{Kind: api.LetterNomination, Slot: slot, Nomination: api.Nomination{Trust: api.Trust{Threshold: 1, Nodes: []int{slot}}, Votes: []api.Value{"a"}}}
}

func parcel(due, from, to, number int) api.Parcel {
	return api.Parcel{Due: due, From: from, To: to, Number: number, Letter: letter(number)}
}

// full is a network that is right, with all that one can have.
func full() api.Network {
	return api.Network{Parcels: []api.Parcel{parcel(0, 5, 1, 3), parcel(2, 1, 0, 4), parcel(2, 1, 2, 0), parcel(2, 1, 2, 1), parcel(220, 0, 9, 2)}, Next: 5, Parts: []int{3, 4, 512}, Delays: slices.Repeat([]int{0, 1, 20, 5}, 25)}
}

// broken has networks that are not right.
func broken() map[string]api.Network {
	l := map[string]api.Network{}
	for name, f := range map[string]func(*api.Network){
		"From":              func(n *api.Network) { n.Parcels[0].From = 10 },
		"negative From":     func(n *api.Network) { n.Parcels[0].From = -1 },
		"To":                func(n *api.Network) { n.Parcels[0].To = 10 },
		"negative To":       func(n *api.Network) { n.Parcels[0].To = -1 },
		"equal":             func(n *api.Network) { n.Parcels[0].To = 5 },
		"negative Due":      func(n *api.Network) { n.Parcels[0].Due = -1 },
		"Due":               func(n *api.Network) { n.Parcels[4].Due = 221 },
		"negative Number":   func(n *api.Network) { n.Parcels[0].Number = -1 },
		"Number":            func(n *api.Network) { n.Parcels[0].Number = 5 },
		"order":             func(n *api.Network) { n.Parcels[0].Due = 3 },
		"order by From":     func(n *api.Network) { n.Parcels[1].From = 3 },
		"order by To":       func(n *api.Network) { n.Parcels[1].To = 3 },
		"order by Number":   func(n *api.Network) { n.Parcels[2].Number = 2 },
		"twice":             func(n *api.Network) { n.Parcels[2].Number = 1 },
		"Next":              func(n *api.Network) { n.Next = 1000000001 },
		"an empty part":     func(n *api.Network) { n.Parts[0] = 0 },
		"no set":            func(n *api.Network) { n.Parts[0] = 1024 },
		"negative part":     func(n *api.Network) { n.Parts[0] = -1 },
		"not disjoint":      func(n *api.Network) { n.Parts[0] = 7 },
		"negative delay":    func(n *api.Network) { n.Delays[99] = -1 },
		"delay":             func(n *api.Network) { n.Delays[99] = 21 },
		"too few delays":    func(n *api.Network) { n.Delays = n.Delays[:99] },
		"too many delays":   func(n *api.Network) { n.Delays = append(n.Delays, 0) },
		"many parts":        func(n *api.Network) { n.Parts = []int{1, 2, 4, 8, 16, 32, 64, 128, 256, 512, 1} },
		"too many parcels":  func(n *api.Network) { *n = many(4001) },
		"the greatest From": func(n *api.Network) { n.Parcels[0].From = math.MaxInt },
	} {
		n := full()
		f(&n)
		l[name] = n
	}
	return l
}

// many is a network with n parcels.
func many(n int) api.Network {
	x := api.Network{Next: n}
	for i := range n {
		x.Parcels = append(x.Parcels, api.Parcel{Due: 5, From: 1, To: 2, Number: i})
	}
	return x
}

// P31.1
func TestCheck(t *testing.T) {
	same(t, "full", network.Check(full()), true)
	same(t, "empty", network.Check(api.Network{}), true)
	same(t, "all", network.Check(api.Network{Next: 1000000000, Parts: []int{1, 2, 4, 8, 16, 32, 64, 128, 256, 512}}), true)
	same(t, "many", network.Check(many(4000)), true)
	same(t, "one part", network.Check(api.Network{Parts: []int{1023}}), true)
	for name, n := range broken() {
		same(t, name, network.Check(n), false)
		want := fmt.Sprint(api.Network{}, api.ErrState)
		same(t, name, fmt.Sprint(network.Send(n, -1, -1, letter(0), -1)), want)
		same(t, name, fmt.Sprint(network.Part(n, []int{0})), want)
		same(t, name, fmt.Sprint(network.Delay(n, -1, -1, -1)), want)
		l, next := network.Due(n, 300)
		same(t, name, len(l), 0)
		same(t, name, fmt.Sprint(next), fmt.Sprint(n))
		n.Parts, n.Delays = nil, nil
		same(t, name, fmt.Sprint(network.Heal(n)), fmt.Sprint(n))
	}
}

// P31.1
func TestApart(t *testing.T) {
	for _, c := range []struct {
		parts []int
		a, b  int
		want  bool
	}{
		{[]int{3, 4}, 0, 2, true},
		{[]int{3, 4}, 2, 1, true},
		{[]int{3, 4}, 0, 1, false},
		{[]int{3, 4}, 0, 3, false},
		{[]int{3, 4}, 3, 4, false},
		{[]int{3, 4}, 2, 2, false},
		{nil, 0, 1, false},
		{[]int{3, 6}, 0, 2, true},
		{[]int{3, 6, 5}, 0, 2, false},
		{[]int{3, 4, 5}, 0, 2, false},
		{[]int{-1, 1, 2}, 0, 1, true},
		{[]int{1025, 2}, 0, 1, false},
		{[]int{-1, 2}, 0, 1, false},
		{[]int{0, 1, 2}, 0, 1, true},
		{[]int{1, 512}, 0, 9, true},
		{[]int{1, 512}, 0, 10, false},
		{[]int{1, 512}, -1, 9, false},
		{[]int{1, 512}, 9, -1, false},
		{[]int{1, 2, 1023}, 0, 1, false},
		{[]int{1, 512}, math.MaxInt, math.MinInt, false},
	} {
		same(t, fmt.Sprint(c), network.Apart(api.Network{Parts: c.parts}, c.a, c.b), c.want)
	}
}

// P31.2
func TestSend(t *testing.T) {
	n := full()
	for _, c := range []struct{ from, to, now, due int }{
		{1, 2, 0, 1}, // the delay is 0
		{2, 1, 1, 2},
		{1, 2, 1, 2},
		{0, 9, 200, 201},
		{0, 2, 5, 25},
		{4, 3, 5, 10},
	} {
		before := fmt.Sprint(n)
		next, e := network.Send(n, c.from, c.to, letter(8), c.now)
		same(t, "Send", e, api.OK)
		same(t, "right", network.Check(next), true)
		same(t, "Next", next.Next, 6)
		want := api.Parcel{Due: c.due, From: c.from, To: c.to, Number: 5, Letter: letter(8)}
		i := slices.IndexFunc(next.Parcels, func(p api.Parcel) bool { return p.Number == 5 })
		same(t, "Send", fmt.Sprint(next.Parcels[i]), fmt.Sprint(want))
		same(t, "the others", fmt.Sprint(slices.Delete(slices.Clone(next.Parcels), i, i+1)), fmt.Sprint(n.Parcels))
		same(t, "the argument stays", fmt.Sprint(n), before)
	}
	same(t, "no delays", first(network.Send(api.Network{}, 1, 2, letter(0), 7)).Due, 8)
	same(t, "a delay", first(network.Send(api.Network{Delays: slices.Repeat([]int{20}, 100)}, 1, 2, letter(0), 200)).Due, 220)
	l := letter(8)
	next, _ := network.Send(n, 1, 2, l, 0)
	for i := range next.Parcels {
		next.Parcels[i].Letter.Nomination.Trust.Nodes[0], next.Parcels[i].Letter.Nomination.Votes[0] = 77, "z"
	}
	same(t, "no shared memory", fmt.Sprint(n, l), fmt.Sprint(full(), letter(8)))
	last := api.Network{Next: 1000000000}
	for _, c := range []struct {
		n             api.Network
		from, to, now int
		e             api.Errno
	}{
		{last, -1, 1, -1, api.ErrNode},
		{last, 10, 1, -1, api.ErrNode},
		{last, 1, 10, -1, api.ErrNode},
		{last, 1, -1, -1, api.ErrNode},
		{last, 1, 1, -1, api.ErrNode},
		{last, 0, 1, -1, api.ErrInvalid},
		{last, 0, 1, 201, api.ErrInvalid},
		{last, 0, 1, 0, api.ErrLimit},
		{many(4000), 0, 1, 0, api.ErrLimit},
	} {
		next, e := network.Send(c.n, c.from, c.to, letter(0), c.now)
		same(t, fmt.Sprint(c.from, c.to, c.now), fmt.Sprint(next, e), fmt.Sprint(api.Network{}, c.e))
	}
	_, e := network.Send(many(3999), 0, 1, letter(0), 0)
	same(t, "one more", e, api.OK)
	_, e = network.Send(api.Network{Next: 999999999}, 0, 1, letter(0), 0)
	same(t, "the last one", e, api.OK)
}

// first returns the only parcel of a network.
func first(n api.Network, _ api.Errno) api.Parcel { return n.Parcels[0] }

// P31.3
func TestDue(t *testing.T) {
	n := full()
	n.Parts = []int{33, 2} // 0 and 5 are apart from 1
	for _, c := range []struct {
		now    int
		arrive string
		left   int
	}{{-1, "[]", 5}, {0, "[]", 4}, {1, "[]", 4}, {2, "[0 1]", 1}, {219, "[0 1]", 1}, {220, "[0 1 2]", 0}, {math.MaxInt, "[0 1 2]", 0}} {
		before := fmt.Sprint(n)
		l, next := network.Due(n, c.now)
		var numbers []int
		for _, p := range l {
			numbers = append(numbers, p.Number)
		}
		same(t, fmt.Sprint(c.now), fmt.Sprint(numbers), c.arrive)
		same(t, fmt.Sprint(c.now), len(next.Parcels), c.left)
		same(t, fmt.Sprint(c.now), fmt.Sprint(next.Parcels), fmt.Sprint(n.Parcels[5-c.left:]))
		same(t, "the rest stays", fmt.Sprint(next.Next, next.Parts, next.Delays), fmt.Sprint(n.Next, n.Parts, n.Delays))
		same(t, "the argument stays", fmt.Sprint(n), before)
		for i := range l {
			l[i].Letter.Nomination.Votes[0] = "z"
		}
		same(t, "no shared memory", fmt.Sprint(n), before)
	}
}

// P31.4
func TestPart(t *testing.T) {
	n := full()
	parts := []int{1, 1022}
	next, e := network.Part(n, parts)
	want := full()
	want.Parts = []int{1, 1022}
	same(t, "Part", fmt.Sprint(next, e), fmt.Sprint(want, 0))
	next.Parts[0] = 9
	same(t, "no shared memory", parts[0], 1)
	next, e = network.Part(n, nil)
	want.Parts = nil
	same(t, "none", fmt.Sprint(next, e), fmt.Sprint(want, 0))
	for _, parts := range [][]int{{0}, {1024}, {-1}, {1, 3}, {1, 2, 4, 8, 16, 32, 64, 128, 256, 512, 512}} {
		next, e := network.Part(n, parts)
		same(t, "Part", fmt.Sprint(next, e), fmt.Sprint(api.Network{}, api.ErrInvalid))
	}
}

// P31.4
func TestDelay(t *testing.T) {
	next, e := network.Delay(full(), 9, 8, 7)
	want := full()
	want.Delays[98] = 7
	same(t, "Delay", fmt.Sprint(next, e), fmt.Sprint(want, 0))
	next, e = network.Delay(api.Network{}, 0, 0, 20)
	same(t, "itself", fmt.Sprint(next.Delays[0], len(next.Delays), e), "20 100 0")
	same(t, "the others", slices.Max(next.Delays[1:]), 0)
	next, e = network.Delay(full(), 0, 2, 0)
	same(t, "none", fmt.Sprint(next.Delays[2], e), "0 0")
	for _, c := range []struct {
		from, to, ticks int
		e               api.Errno
	}{{-1, 0, -1, api.ErrNode}, {10, 0, 0, api.ErrNode}, {0, 10, 0, api.ErrNode}, {0, -1, 0, api.ErrNode}, {0, 1, -1, api.ErrInvalid}, {0, 1, 21, api.ErrInvalid}} {
		next, e := network.Delay(full(), c.from, c.to, c.ticks)
		same(t, "Delay", fmt.Sprint(next, e), fmt.Sprint(api.Network{}, c.e))
	}
	want = full()
	want.Parts, want.Delays = nil, nil
	same(t, "Heal", fmt.Sprint(network.Heal(full())), fmt.Sprint(want))
}

// The consequence of the chapter: letters with the same delay arrive as they were sent.
func TestOrder(t *testing.T) {
	r := rand.New(rand.NewSource(31))
	n := api.Network{}
	arrived := map[[2]int]int{}
	for now := range 50 {
		for range 5 {
			n, _ = network.Send(n, r.Intn(3), 3+r.Intn(3), letter(n.Next), now)
		}
		if now == 0 {
			n, _ = network.Delay(n, 1, 4, 6)
		}
		same(t, "right", network.Check(n), true)
		l, next := network.Due(n, now)
		for _, p := range l {
			if p.From != 1 || p.To != 4 {
				same(t, "order", arrived[[2]int{p.From, p.To}] <= p.Number, true)
			}
			same(t, "its letter", p.Letter.Slot, p.Number)
			arrived[[2]int{p.From, p.To}] = p.Number
		}
		n = next
	}
}
