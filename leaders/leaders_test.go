package leaders_test

import (
	"fmt"
	"math"
	"math/rand"
	"testing"

	"trustquorum/api"
	"trustquorum/leaders"
	"trustquorum/nodeset"
	"trustquorum/notation"
	"trustquorum/threshold"
)

func same[T comparable](t *testing.T, name string, got, want T) {
	t.Helper()
	if got != want {
		t.Errorf("%s: got %v, want %v", name, got, want)
	}
}

func parse(text string) api.Trust {
	x, _, e := notation.Parse(text)
	if e != api.OK {
		panic(text)
	}
	return x
}

var (
	example = parse("2 of (0, 1, 1 of (2, 3))")
	wrong   = api.Trust{Threshold: 2, Nodes: []int{0}}
)

// P21.1
func TestWeight(t *testing.T) {
	for _, c := range []struct {
		text string
		want [10]string
	}{
		{"2 of (0, 1, 1 of (2, 3))", [10]string{"2/3", "2/3", "2/6", "2/6"}},
		{"1 of (9)", [10]string{9: "1/1"}},
		{"2 of (0, 4 of (1, 2, 3, 4), 2 of (0, 1, 2 of (5, 6, 7)))", [10]string{"2/3", "8/12", "8/12", "8/12", "8/12", "8/27", "8/27", "8/27"}},
		{"1 of (2 of (1 of (0), 2, 3), 2 of (0, 3))", [10]string{0: "2/6", 2: "2/6", 3: "2/6"}},
	} {
		for node := range 10 {
			w, ok := leaders.Weight(parse(c.text), node)
			want := c.want[node]
			same(t, fmt.Sprint(c.text, node), ok, want != "")
			if want == "" {
				want = "0/0"
			}
			same(t, fmt.Sprint(c.text, node), fmt.Sprint(w.Num, "/", w.Den), want)
		}
	}
	for _, node := range []int{-1, 10, 7, math.MaxInt} {
		w, ok := leaders.Weight(example, node)
		same(t, "none", fmt.Sprint(w, ok), "{0 0} false")
	}
	w, ok := leaders.Weight(wrong, 0)
	same(t, "not valid", fmt.Sprint(w, ok), "{0 0} false")
}

// P21.2: the numbers were computed elsewhere.
func TestHash(t *testing.T) {
	for _, c := range []struct {
		kind, slot, round, node int
		want                    uint32
	}{
		{0, 0, 0, 0, 3793791033},
		{1, 1, 1, 1, 3396858177},
		{2, 1000000, 1000, 9, 1895937901},
		{1, 5, 3, 2, 2034613090},
		{-1, -2, -3, -4, 464017228},
		{255, 1 << 40, 1 << 56, 1 << 62, 3169597415},
		{3, -1, 0, 0, 809879436},
		{256, 0, 0, -1, 3839455607},
	} {
		same(t, fmt.Sprint(c), leaders.Hash(c.kind, c.slot, c.round, c.node), c.want)
	}
}

// P21.3
func TestNeighbour(t *testing.T) {
	for slot, want := range map[int][6]int{0: {1, 3, 3, 7, 3, 3}, 7: {1, 11, 7, 9, 15, 3}} {
		for i, s := range want {
			for u := -2; u < 12; u++ {
				same(t, fmt.Sprint(slot, i+1, u), leaders.Neighbour(example, 0, slot, i+1, u), nodeset.Has(s, u))
			}
		}
	}
	for _, c := range []struct {
		x              api.Trust
		v, slot, round int
		e              api.Errno
	}{
		{wrong, -1, -1, 0, api.ErrThreshold},
		{example, -1, -1, 0, api.ErrNode},
		{example, 10, 0, 1, api.ErrNode},
		{example, math.MinInt, 0, 1, api.ErrNode},
		{example, 0, -1, 1, api.ErrInvalid},
		{example, 0, api.MaxSlot + 1, 1, api.ErrInvalid},
		{example, 0, 0, 0, api.ErrInvalid},
		{example, 0, 0, -1, api.ErrInvalid},
		{example, 0, 0, api.MaxRounds + 1, api.ErrInvalid},
		{example, 0, 0, math.MaxInt, api.ErrInvalid},
	} {
		same(t, "Neighbour", leaders.Neighbour(c.x, c.v, c.slot, c.round, c.v), false)
		leader, e := leaders.Choose(c.x, c.v, c.slot, c.round)
		same(t, "Choose", fmt.Sprint(leader, e), fmt.Sprint(0, c.e))
		s, e := leaders.Leaders(c.x, c.v, c.slot, c.round)
		same(t, "Leaders", fmt.Sprint(s, e), fmt.Sprint(0, c.e))
		if c.v >= 0 && c.v < 10 {
			config := api.Config{Members: make([]api.Member, 10)}
			config.Members[c.v] = api.Member{Declared: true, Trust: c.x}
			leader, ok := leaders.Of(config, c.v, c.slot, c.round)
			same(t, "Of", fmt.Sprint(leader, ok), "0 false")
		}
	}
}

// P21.3 and P21.4: the numbers were computed elsewhere.
func TestChoose(t *testing.T) {
	for _, c := range []struct {
		v, slot int
		want    [8]int
	}{
		{0, 0, [8]int{0, 1, 0, 0, 1, 1, 0, 1}},
		{0, 1, [8]int{0, 0, 2, 1, 1, 0, 1, 0}},
		{0, 1000000, [8]int{0, 0, 0, 2, 1, 0, 0, 3}},
		{3, 0, [8]int{3, 3, 3, 0, 1, 1, 3, 1}},
		{3, 1, [8]int{3, 0, 2, 1, 1, 0, 1, 0}},
		{3, 1000000, [8]int{3, 2, 3, 2, 1, 0, 0, 3}},
		{7, 0, [8]int{0, 7, 7, 0, 7, 1, 7, 1}},
		{7, 1, [8]int{7, 0, 2, 1, 1, 7, 1, 0}},
		{7, 1000000, [8]int{7, 7, 7, 2, 7, 7, 0, 3}},
	} {
		config := api.Config{Members: make([]api.Member, c.v+1)}
		config.Members[c.v] = api.Member{Declared: true, Trust: example}
		all := 0
		for i, want := range c.want {
			leader, e := leaders.Choose(example, c.v, c.slot, i+1)
			same(t, fmt.Sprint(c.v, c.slot, i+1), fmt.Sprint(leader, e), fmt.Sprint(want, 0))
			leader, ok := leaders.Of(config, c.v, c.slot, i+1)
			same(t, fmt.Sprint(c.v, c.slot, i+1), fmt.Sprint(leader, ok), fmt.Sprint(want, true))
			all |= 1 << want
			s, e := leaders.Leaders(example, c.v, c.slot, i+1)
			same(t, fmt.Sprint(c.v, c.slot, i+1), fmt.Sprint(s, e), fmt.Sprint(all, 0))
		}
	}
	config := api.Config{Members: make([]api.Member, 70)}
	for k := range config.Members {
		config.Members[k] = api.Member{Declared: k != 1, Trust: example}
	}
	for _, v := range []int{-1, 1, 10, 69, 70, math.MaxInt, math.MinInt} {
		leader, ok := leaders.Of(config, v, 1, 1)
		same(t, "no such member", fmt.Sprint(leader, ok), "0 false")
	}
	_, ok := leaders.Of(config, 9, 1, 1)
	same(t, "the last one", ok, true)
}

// The consequences of the chapter.
func TestConsequences(t *testing.T) {
	r := rand.New(rand.NewSource(21))
	for range 60 {
		x := api.Trust{Nodes: r.Perm(10)[:1+r.Intn(4)]}
		for range r.Intn(3) {
			inner := api.Trust{Nodes: r.Perm(10)[:1+r.Intn(4)]}
			inner.Threshold = 1 + r.Intn(len(inner.Nodes))
			x.Inner = append(x.Inner, inner)
		}
		x.Threshold = 1 + r.Intn(len(x.Nodes)+len(x.Inner))
		for node := range 10 {
			w, ok := leaders.Weight(x, node)
			same(t, "has a weight", ok, nodeset.Has(threshold.Uses(x), node))
			same(t, "at most 1", !ok || w.Num > 0 && w.Num <= w.Den, true)
		}
		v, slot, before := r.Intn(10), r.Intn(api.MaxSlot), 0
		for round := 1; round < 30; round++ {
			same(t, "its own neighbour", leaders.Neighbour(x, v, slot, round, v), true)
			leader, _ := leaders.Choose(x, v, slot, round)
			same(t, "itself or used", leader == v || nodeset.Has(threshold.Uses(x), leader), true)
			same(t, "a neighbour", leaders.Neighbour(x, v, slot, round, leader), true)
			all, _ := leaders.Leaders(x, v, slot, round)
			same(t, "not fewer", before&^all, 0)
			before = all
			for u := range 10 {
				if leaders.Neighbour(x, v, slot, round, u) {
					same(t, "the greatest", leaders.Hash(2, slot, round, u) <= leaders.Hash(2, slot, round, leader), true)
				}
			}
		}
	}
	all, e := leaders.Leaders(example, 0, api.MaxSlot, api.MaxRounds)
	same(t, "all rounds", fmt.Sprint(all, e), "15 0")
}
