package blocking_test

import (
	"fmt"
	"math"
	"math/rand"
	"slices"
	"testing"

	"trustquorum/api"
	"trustquorum/blocking"
	"trustquorum/configuration"
	"trustquorum/nodeset"
	"trustquorum/threshold"
)

func same[T comparable](t *testing.T, name string, got, want T) {
	t.Helper()
	if got != want {
		t.Errorf("%s: got %v, want %v", name, got, want)
	}
}

func parse(t *testing.T, text string) api.Config {
	t.Helper()
	c, _, e := configuration.Parse(text)
	same(t, text, e, api.OK)
	return c
}

const (
	three = "0: 2 of (0, 1, 2)\n1: 2 of (0, 1, 2)\n2: 2 of (0, 1, 2)\n"
	chain = "0: 1 of (1)\n1: 1 of (2)\n2: 1 of (3)\n3: 1 of (4)\n4: -\n5: 1 of (5)\n"
)

var noSets = []int{-1, 1024, math.MinInt, math.MaxInt}

// P11.1
func TestBlocks(t *testing.T) {
	x, y := parse(t, three), parse(t, chain)
	for _, c := range []struct {
		c    api.Config
		v, s int
		want bool
	}{
		{x, 0, 6, true}, {x, 0, 7, true}, {x, 0, 6 | 512, true}, {x, 0, 2, false}, {x, 0, 3, false}, {x, 0, 1, false}, {x, 0, 0, false},
		{x, 1, 5, true}, {x, 1, 6, false}, {x, 3, 1023, false}, {x, -1, 1023, false}, {x, 10, 1023, false}, {x, math.MaxInt, 1023, false},
		{y, 3, 16, true}, {y, 3, 15, false}, {y, 4, 1023, false}, {y, 5, 1023, false}, {y, 0, 2, true}, {y, 0, 4, false},
	} {
		same(t, fmt.Sprint(c.v, c.s), blocking.Blocks(c.c, c.v, c.s), c.want)
	}
	for _, s := range noSets {
		same(t, "no set", blocking.Blocks(x, 0, s), false)
	}
	never := api.Config{Members: slices.Repeat([]api.Member{{Declared: true, Trust: api.Trust{Threshold: 1}}}, 70)}
	same(t, "never satisfied", blocking.Blocks(never, 9, 0), true)
	same(t, "behind the first ten", blocking.Blocks(never, 10, 0), false)
	never.Members[0].Declared = false
	same(t, "undeclared", blocking.Blocks(never, 0, 0), false)
	added, all := blocking.Cascade(never, 0)
	same(t, "Cascade", fmt.Sprint(added, all), "[1 2 3 4 5 6 7 8 9] 1022")
}

// P11.1
func TestLeast(t *testing.T) {
	for _, c := range []struct {
		text string
		v    int
		want []int
		e    api.Errno
	}{
		{three, 0, []int{6}, api.OK},
		{three, 2, []int{3}, api.OK},
		{chain, 3, []int{16}, api.OK},
		{chain, 5, nil, api.OK},
		{"0: 2 of (1, 2, 3)\n1: -\n2: -\n3: -", 0, []int{6, 10, 12}, api.OK},
		{"0: 2 of (0, 1, 1 of (2, 3))\n1: -\n2: -\n3: -", 0, []int{14}, api.OK},
		{"0: 3 of (0, 1, 1 of (2, 3))\n1: -\n2: -\n3: -", 0, []int{2, 12}, api.OK},
		{chain, 4, nil, api.ErrMissing},
		{chain, 6, nil, api.ErrNode},
		{chain, -1, nil, api.ErrNode},
		{chain, math.MinInt, nil, api.ErrNode},
		{"", 0, nil, api.ErrNode},
	} {
		got, e := blocking.Least(parse(t, c.text), c.v)
		same(t, fmt.Sprint(c.text, c.v), fmt.Sprint(got, e), fmt.Sprint(c.want, c.e))
	}
	_, e := blocking.Least(api.Config{Members: make([]api.Member, 11)}, 99)
	same(t, "not valid", e, api.ErrLimit)
}

// P11.2 and P11.3
func TestCascade(t *testing.T) {
	for _, c := range []struct {
		text  string
		s     int
		added []int
		end   int
	}{
		{three, 6, []int{0}, 7},
		{three, 2, nil, 2},
		{three, 0, nil, 0},
		{three, 1023, nil, 1023},
		{chain, 16, []int{3, 2, 1, 0}, 31},
		{chain, 4, []int{1, 0}, 7},
		{"0: 1 of (3)\n1: 1 of (3)\n2: 1 of (1)\n3: -", 8, []int{0, 1, 2}, 15},
		{"0: 1 of (2)\n1: 1 of (3)\n2: 1 of (1)\n3: -", 8, []int{1, 2, 0}, 15},
	} {
		x := parse(t, c.text)
		added, end := blocking.Cascade(x, c.s)
		same(t, c.text, fmt.Sprint(added, end), fmt.Sprint(c.added, c.end))
		got, e := blocking.Check(x, c.s, added)
		same(t, c.text, fmt.Sprint(got, e), fmt.Sprint(c.end, 0))
	}
	for _, s := range noSets {
		added, end := blocking.Cascade(parse(t, chain), s)
		same(t, "no set", fmt.Sprint(added, end), "[] 0")
		end, e := blocking.Check(parse(t, chain), s, nil)
		same(t, "no set", fmt.Sprint(end, e), fmt.Sprint(0, api.ErrInvalid))
	}
}

// P11.3
func TestCheck(t *testing.T) {
	for _, c := range []struct {
		text string
		s    int
		l    []int
		end  int
		e    api.Errno
	}{
		{"0: 1 of (3)\n1: 1 of (3)\n2: 1 of (1)\n3: -", 8, []int{1, 2, 0}, 15, api.OK},
		{"0: 1 of (3)\n1: 1 of (3)\n2: 1 of (1)\n3: -", 8, []int{2, 1, 0}, 0, api.ErrProof},
		{"0: 1 of (3)\n1: 1 of (3)\n2: 1 of (1)\n3: -", 8, []int{0, 1}, 0, api.ErrProof},
		{three, 2, nil, 2, api.OK},
		{three, 6, nil, 0, api.ErrProof},
		{three, 2, []int{0}, 0, api.ErrProof},
		{three, 6, []int{0, 0}, 0, api.ErrProof},
		{three, 6, []int{1}, 0, api.ErrProof},
		{three, 7, []int{0}, 0, api.ErrProof},
		{three, 6, []int{0, 3}, 0, api.ErrProof},
		{three, 6, []int{0, -1}, 0, api.ErrProof},
		{chain, 8, []int{4}, 0, api.ErrProof},
	} {
		end, e := blocking.Check(parse(t, c.text), c.s, c.l)
		same(t, fmt.Sprint(c.text, c.s, c.l), fmt.Sprint(end, e), fmt.Sprint(c.end, c.e))
	}
}

// The consequences of the chapter.
func TestConsequences(t *testing.T) {
	r := rand.New(rand.NewSource(11))
	for range 80 {
		var c api.Config
		for range 5 {
			x := api.Trust{Nodes: r.Perm(5)[:1+r.Intn(5)]}
			x.Threshold = 1 + r.Intn(len(x.Nodes))
			c.Members = append(c.Members, api.Member{Declared: r.Intn(5) > 0, Trust: x})
			if !c.Members[len(c.Members)-1].Declared {
				c.Members[len(c.Members)-1] = api.Member{}
			}
		}
		for s := range 32 {
			_, end := blocking.Cascade(c, s)
			_, more := blocking.Cascade(c, s|1<<r.Intn(5))
			same(t, "grows", end&^more, 0)
			for v := range 5 {
				m := c.Members[v]
				if blocking.Blocks(c, v, s) {
					same(t, "more nodes", blocking.Blocks(c, v, s|1<<r.Intn(10)), true)
					same(t, "without the member", blocking.Blocks(c, v, s&^(1<<v)), true)
				}
				want := m.Declared && !threshold.Satisfied(m.Trust, 1023&^s|1<<v)
				same(t, "Blocks", blocking.Blocks(c, v, s), want)
				if m.Declared && !nodeset.Has(end, v) {
					same(t, "a slice avoids the set", threshold.Satisfied(m.Trust, 1023&^end), true)
				}
			}
		}
		for v := range 5 {
			l, e := blocking.Least(c, v)
			if e == api.OK {
				for _, s := range l {
					same(t, "without the member", nodeset.Has(s, v), false)
				}
			}
		}
	}
}
