package deletion_test

import (
	"fmt"
	"math"
	"math/rand"
	"testing"

	"trustquorum/api"
	"trustquorum/closure"
	"trustquorum/configuration"
	"trustquorum/deletion"
	"trustquorum/notation"
	"trustquorum/threshold"
)

func same[T comparable](t *testing.T, name string, got, want T) {
	t.Helper()
	if got != want {
		t.Errorf("%s: got %v, want %v", name, got, want)
	}
}

func trust(k int, nodes []int, inner ...api.Trust) api.Trust {
	return api.Trust{Threshold: k, Nodes: nodes, Inner: inner}
}

func parse(t *testing.T, text string) api.Config {
	t.Helper()
	c, _, e := configuration.Parse(text)
	same(t, text, e, api.OK)
	return c
}

// P13.1
func TestTrust(t *testing.T) {
	for _, c := range []struct {
		text    string
		node, s int
		want    string
	}{
		{"3 of (0, 1, 5, 2 of (2, 3, 4))", 0, 6, "2 of (0, 5, 1 of (3, 4))"},
		{"3 of (0, 1, 5, 2 of (2, 3, 4))", 4, 35, "1 of (4)"},
		{"3 of (0, 1, 5, 2 of (2, 3, 4))", 0, 0, "3 of (0, 1, 5, 2 of (2, 3, 4))"},
		{"3 of (0, 1, 5, 2 of (2, 3, 4))", 0, 28, "2 of (0, 1, 5)"},
		{"3 of (0, 1, 5, 2 of (2, 3, 4))", 0, 12, "2 of (0, 1, 5)"},
		{"3 of (0, 1, 5, 2 of (2, 3, 4))", 0, 512, "3 of (0, 1, 5, 2 of (2, 3, 4))"},
		{"1 of (0, 1)", 7, 1, "1 of (7)"},
		{"1 of (1 of (0), 1 of (1))", 7, 1, "1 of (7)"},
		{"2 of (1 of (0), 1 of (1))", 7, 1, "1 of (1 of (1))"},
		{"2 of (1, 2 of (2, 1 of (3, 1 of (4))))", 0, 16, "2 of (1, 1 of (2))"},
	} {
		x, _, e := notation.Parse(c.text)
		same(t, c.text, e, api.OK)
		before := fmt.Sprint(x)
		same(t, fmt.Sprint(c), notation.Text(deletion.Trust(x, c.node, c.s)), c.want)
		same(t, "the argument stays", fmt.Sprint(x), before)
	}
	example := trust(2, []int{0, 1})
	for _, s := range []int{-1, 1024, math.MinInt, math.MaxInt} {
		same(t, "no set", fmt.Sprint(deletion.Trust(example, 5, s)), fmt.Sprint(example))
		same(t, "no set", fmt.Sprint(deletion.Trust(trust(0, nil), 5, s)), fmt.Sprint(trust(0, nil)))
	}
	for _, c := range []struct {
		t    api.Trust
		node int
		s    int
		want api.Trust
	}{
		{trust(0, []int{1}), 3, 0, trust(1, []int{3})},
		{trust(math.MinInt, []int{1, 1}), -7, 2, trust(1, []int{-7})},
		{trust(2, []int{5}, trust(0, nil), trust(-3, []int{4})), 99, 0, trust(1, []int{99})},
		{trust(3, []int{5}, trust(math.MinInt, []int{0}), trust(-3, nil)), 0, 1, trust(1, []int{5})},
		{trust(5, []int{1, 1, 2}), 0, 2, trust(3, []int{2})},
		{trust(2, []int{10, -1, 3}), 0, 1023, trust(1, []int{10, -1})},
		{trust(math.MaxInt, nil), 0, 1, trust(math.MaxInt, nil)},
	} {
		same(t, fmt.Sprint(c.t, c.s), fmt.Sprint(deletion.Trust(c.t, c.node, c.s)), fmt.Sprint(c.want))
	}
	got := deletion.Trust(example, 0, 0)
	got.Nodes[0] = 9
	got = deletion.Trust(example, 0, -1)
	got.Nodes[0] = 9
	same(t, "no shared memory", example.Nodes[0], 0)
}

// P13.1
func TestDelete(t *testing.T) {
	c := parse(t, "0: 2 of (0, 1, 2)\n1: 2 of (0, 1, 2)\n2: 1 of (1)\n3: -\n4: 3 of (0, 2, 4)\n")
	for s, want := range map[int]string{
		0:    configuration.Text(c),
		-1:   configuration.Text(c),
		1024: configuration.Text(c),
		1:    "0: -\n1: 1 of (1, 2)\n2: 1 of (1)\n3: -\n4: 2 of (2, 4)\n",
		2:    "0: 1 of (0, 2)\n1: -\n2: 1 of (2)\n3: -\n4: 3 of (0, 2, 4)\n",
		5:    "0: -\n1: 1 of (1)\n2: -\n3: -\n4: 1 of (4)\n",
		8:    configuration.Text(c),
		1023: "0: -\n1: -\n2: -\n3: -\n4: -\n",
	} {
		same(t, fmt.Sprint(s), configuration.Text(deletion.Delete(c, s)), want)
	}
	odd := api.Config{Members: make([]api.Member, 70)}
	odd.Members[0] = api.Member{Trust: trust(5, []int{1})}
	odd.Members[1] = api.Member{Trust: trust(5, []int{1})}
	odd.Members[69] = api.Member{Declared: true, Trust: trust(1, []int{1})}
	got := deletion.Delete(odd, 2)
	same(t, "undeclared", fmt.Sprint(got.Members[0]), fmt.Sprint(odd.Members[0]))
	same(t, "undeclared", fmt.Sprint(got.Members[1]), fmt.Sprint(api.Member{}))
	same(t, "behind the tenth", fmt.Sprint(got.Members[69].Trust), fmt.Sprint(trust(1, []int{69})))
	got.Members[0].Trust.Nodes[0] = 7
	same(t, "no shared memory", odd.Members[0].Trust.Nodes[0], 1)
}

func random(r *rand.Rand, n, levels int) api.Trust {
	x := api.Trust{Nodes: r.Perm(n)[:1+r.Intn(n)]}
	for range r.Intn(3) {
		if levels > 1 {
			x.Inner = append(x.Inner, random(r, n, levels-1))
		}
	}
	x.Threshold = 1 + r.Intn(len(x.Nodes)+len(x.Inner))
	return x
}

// The consequences of the chapter.
func TestConsequences(t *testing.T) {
	r := rand.New(rand.NewSource(13))
	for range 150 {
		var c api.Config
		for range 5 {
			c.Members = append(c.Members, api.Member{Declared: true, Trust: random(r, 5, 3)})
		}
		x, node := c.Members[0].Trust, r.Intn(5)
		for d := range 32 {
			after := deletion.Trust(x, node, d)
			for s := range 32 {
				if s&d == 0 && s>>node&1 == 1 {
					same(t, "satisfied", threshold.Satisfied(after, s), threshold.Satisfied(x, s|d))
				}
			}
			rest := deletion.Delete(c, d)
			same(t, "valid", configuration.Valid(rest), api.OK)
			other := r.Intn(32)
			same(t, "union", configuration.Same(deletion.Delete(rest, other), deletion.Delete(c, d|other)), true)
			for q := range 32 {
				if closure.Quorum(c, q) && q&^d != 0 {
					same(t, "quorum", closure.Quorum(rest, q&^d), true)
				}
			}
		}
	}
}
