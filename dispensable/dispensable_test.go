package dispensable_test

import (
	"fmt"
	"math"
	"math/rand"
	"slices"
	"testing"

	"trustquorum/api"
	"trustquorum/closure"
	"trustquorum/configuration"
	"trustquorum/deletion"
	"trustquorum/dispensable"
	"trustquorum/nodeset"
	"trustquorum/threshold"
)

func same[T comparable](t *testing.T, name string, got, want T) {
	t.Helper()
	if got != want {
		t.Errorf("%s: got %v, want %v", name, got, want)
	}
}

func parse(t *testing.T, text string) api.Config {
	t.Helper()
	c, _, e := configuration.Parse(text)
	same(t, text, e, api.OK)
	return c
}

// uniform is a configuration of n members with the threshold k.
func uniform(n, k int) api.Config {
	var c api.Config
	for range n {
		c.Members = append(c.Members, api.Member{Declared: true, Trust: api.Trust{Threshold: k, Nodes: nodeset.Nodes(1<<n - 1)}})
	}
	return c
}

var tooMany = api.Config{Members: make([]api.Member, 11)}

// P14.1
func TestValid(t *testing.T) {
	broken := api.Config{Members: []api.Member{{Declared: true}}}
	for _, c := range []struct {
		low, high api.Config
		e         api.Errno
	}{
		{uniform(4, 3), uniform(4, 3), api.OK},
		{uniform(4, 2), uniform(4, 3), api.OK},
		{uniform(7, 4), uniform(7, 4), api.OK},
		{api.Config{}, api.Config{}, api.OK},
		{parse(t, "0: -\n1: 1 of (0, 1)"), parse(t, "0: -\n1: 1 of (0)"), api.OK},
		{tooMany, broken, api.ErrLimit},
		{broken, tooMany, api.ErrThreshold},
		{uniform(4, 3), tooMany, api.ErrLimit},
		{uniform(4, 3), uniform(5, 3), api.ErrInvalid},
		{uniform(9, 3), uniform(8, 3), api.ErrInvalid},
		{parse(t, "0: -\n1: 1 of (1)"), parse(t, "0: 1 of (0)\n1: -"), api.ErrInvalid},
		{uniform(8, 5), uniform(8, 5), api.ErrLimit},
		{uniform(8, 5), uniform(8, 4), api.ErrLimit},
		{uniform(4, 3), uniform(4, 2), api.ErrConflict},
		{parse(t, "0: 1 of (0)\n1: 1 of (1)"), parse(t, "0: 1 of (0)\n1: 1 of (0, 1)"), api.ErrConflict},
	} {
		name := configuration.Text(c.low) + configuration.Text(c.high)
		same(t, name, dispensable.Valid(c.low, c.high), c.e)
		if c.e == api.OK {
			continue
		}
		is, e := dispensable.Is(c.low, c.high, -1)
		same(t, name, fmt.Sprint(is, e), fmt.Sprint(false, c.e))
		all, e := dispensable.All(c.low, c.high, -1)
		same(t, name, fmt.Sprint(all, e), fmt.Sprint([]int{}, c.e))
		x, e := dispensable.Refute(c.low, c.high, -1)
		same(t, name, fmt.Sprint(x, e), fmt.Sprint(api.Refutation{}, c.e))
		same(t, name, dispensable.Check(c.low, c.high, 0, api.Refutation{}), false)
	}
}

// P14.2
func TestDespite(t *testing.T) {
	for _, c := range []struct {
		c                     api.Config
		b                     int
		intersects, available bool
		e                     api.Errno
	}{
		{uniform(4, 3), 0, true, true, api.OK},
		{uniform(4, 3), 1, true, true, api.OK},
		{uniform(4, 3), 3, false, false, api.OK},
		{uniform(4, 3), 15, true, true, api.OK},
		{uniform(4, 2), 0, false, true, api.OK},
		{uniform(9, 6), 3, true, true, api.OK},
		{uniform(9, 6), 15, false, false, api.OK},
		{parse(t, "0: -\n1: 1 of (1)"), 0, true, false, api.OK},
		{parse(t, "0: -\n1: 1 of (1)"), 1, true, true, api.OK},
		{api.Config{}, 0, true, true, api.OK},
		{uniform(4, 3), 16, false, false, api.ErrInvalid},
		{uniform(4, 3), -1, false, false, api.ErrInvalid},
		{uniform(4, 3), math.MinInt, false, false, api.ErrInvalid},
		{uniform(10, 6), 1024, false, false, api.ErrInvalid},
		{tooMany, -1, false, false, api.ErrLimit},
	} {
		intersects, e := dispensable.Intersects(c.c, c.b)
		same(t, fmt.Sprint(c), fmt.Sprint(intersects, e), fmt.Sprint(c.intersects, c.e))
		available, e := dispensable.Available(c.c, c.b)
		same(t, fmt.Sprint(c), fmt.Sprint(available, e), fmt.Sprint(c.available, c.e))
	}
}

// P14.2
func TestAll(t *testing.T) {
	for _, c := range []struct {
		low, high api.Config
		ill       int
		want      []int
	}{
		{uniform(4, 3), uniform(4, 3), 0, []int{0, 1, 2, 4, 8, 15}},
		{uniform(4, 3), uniform(4, 3), 2, []int{2, 15}},
		{uniform(4, 3), uniform(4, 3), 3, []int{15}},
		{uniform(4, 3), uniform(4, 4), 0, []int{0, 15}},
		{uniform(4, 2), uniform(4, 3), 0, []int{15}},
		{uniform(4, 2), uniform(4, 2), 0, []int{15}},
		{parse(t, "0: 2 of (0, 1)\n1: 1 of (1)\n2: -"), parse(t, "0: 2 of (0, 1)\n1: 1 of (1)\n2: -"), 0, []int{4, 5, 7}},
		{api.Config{}, api.Config{}, 0, []int{0}},
	} {
		got, e := dispensable.All(c.low, c.high, c.ill)
		same(t, fmt.Sprint(c), fmt.Sprint(got, e), fmt.Sprint(c.want, 0))
		for b := range 1 << len(c.low.Members) {
			is, e := dispensable.Is(c.low, c.high, b)
			same(t, "Is", e, api.OK)
			same(t, fmt.Sprint("Is ", b), is && b&c.ill == c.ill, slices.Contains(c.want, b))
		}
	}
	for _, b := range []int{16, -1, math.MaxInt, math.MinInt} {
		is, e := dispensable.Is(uniform(4, 3), uniform(4, 3), b)
		same(t, "Is", fmt.Sprint(is, e), fmt.Sprint(false, api.ErrInvalid))
		all, e := dispensable.All(uniform(4, 3), uniform(4, 3), b)
		same(t, "All", fmt.Sprint(all, e), fmt.Sprint([]int{}, api.ErrInvalid))
		x, e := dispensable.Refute(uniform(4, 3), uniform(4, 3), b)
		same(t, "Refute", fmt.Sprint(x, e), fmt.Sprint(api.Refutation{}, api.ErrInvalid))
		same(t, "Check", dispensable.Check(uniform(4, 3), uniform(4, 3), b, api.Refutation{}), false)
	}
}

// P14.3
func TestRefute(t *testing.T) {
	four := uniform(4, 3)
	apart := parse(t, "0: 1 of (0)\n1: 1 of (1)\n2: 2 of (0, 1)\n3: -")
	for _, c := range []struct {
		low, high api.Config
		b         int
		want      api.Refutation
		e         api.Errno
	}{
		{four, four, 3, api.Refutation{Node: 2}, api.OK},
		{four, four, 13, api.Refutation{Node: 1}, api.OK},
		{four, uniform(4, 4), 1, api.Refutation{Node: 1}, api.OK},
		{uniform(4, 2), uniform(4, 2), 0, api.Refutation{Node: -1, A: 3, B: 12}, api.OK},
		{uniform(4, 2), uniform(4, 2), 4, api.Refutation{Node: -1, A: 1, B: 10}, api.OK},
		{apart, apart, 0, api.Refutation{Node: 3}, api.OK},
		{apart, apart, 8, api.Refutation{Node: -1, A: 1, B: 2}, api.OK},
		{apart, apart, 1, api.Refutation{Node: 2}, api.OK},
		{four, four, 0, api.Refutation{}, api.ErrNone},
		{four, four, 8, api.Refutation{}, api.ErrNone},
		{four, four, 15, api.Refutation{}, api.ErrNone},
	} {
		x, e := dispensable.Refute(c.low, c.high, c.b)
		same(t, fmt.Sprint(c), fmt.Sprint(x, e), fmt.Sprint(c.want, c.e))
		same(t, fmt.Sprint(c), dispensable.Check(c.low, c.high, c.b, x), e == api.OK)
	}
	for _, c := range []struct {
		low, high api.Config
		b         int
		x         api.Refutation
		want      bool
	}{
		{four, four, 3, api.Refutation{Node: 3}, true},
		{four, four, 3, api.Refutation{Node: 3, A: 1}, false},
		{four, four, 3, api.Refutation{Node: 3, B: 1}, false},
		{four, four, 3, api.Refutation{Node: 1}, false},
		{four, four, 3, api.Refutation{Node: 4}, false},
		{four, four, 3, api.Refutation{Node: -2}, false},
		{four, four, 3, api.Refutation{Node: math.MaxInt}, false},
		{four, four, 3, api.Refutation{Node: -1, A: 4, B: 8}, true},
		{four, four, 3, api.Refutation{Node: -1, A: 8, B: 4}, true},
		{four, four, 3, api.Refutation{Node: -1, A: 12, B: 4}, false},
		{four, four, 3, api.Refutation{Node: -1, A: 4, B: 0}, false},
		{four, four, 3, api.Refutation{Node: -1, A: 0, B: 4}, false},
		{four, four, 3, api.Refutation{Node: -1, A: 4, B: 1}, false},
		{four, four, 3, api.Refutation{Node: -1, A: -1, B: 4}, false},
		{four, four, 3, api.Refutation{Node: -1}, false},
		{apart, apart, 0, api.Refutation{Node: 3}, true},
		{apart, apart, 0, api.Refutation{Node: 2}, false},
		{apart, apart, 8, api.Refutation{Node: 3}, false},
		{apart, apart, 0, api.Refutation{Node: -1, A: 1, B: 6}, false},
		{apart, apart, 0, api.Refutation{Node: -1, A: 2, B: 1}, true},
	} {
		same(t, fmt.Sprint(c.b, c.x), dispensable.Check(c.low, c.high, c.b, c.x), c.want)
	}
}

// random makes a pair of n members.
func random(r *rand.Rand, n int) (api.Config, api.Config) {
	var low, high api.Config
	for range n {
		x := api.Trust{Nodes: r.Perm(n)[:1+r.Intn(n)]}
		y := api.Trust{Nodes: x.Nodes, Threshold: 1 + r.Intn(len(x.Nodes))}
		x.Threshold = 1 + r.Intn(y.Threshold)
		low.Members = append(low.Members, api.Member{Declared: true, Trust: x})
		high.Members = append(high.Members, api.Member{Declared: true, Trust: y})
	}
	if k := r.Intn(2 * n); k < n {
		low.Members[k], high.Members[k] = api.Member{}, api.Member{}
	}
	return low, high
}

// The consequences of the chapter, and the definition.
func TestConsequences(t *testing.T) {
	r := rand.New(rand.NewSource(14))
	for range 60 {
		n := 1 + r.Intn(5)
		low, high := random(r, n)
		same(t, "pair", dispensable.Valid(low, high), api.OK)
		all, _ := dispensable.All(low, high, 0)
		same(t, "all members", slices.Contains(all, 1<<n-1), true)
		for b := range 1 << n {
			intersects, _ := dispensable.Intersects(low, b)
			rest := deletion.Delete(low, b)
			want := true
			for p := range 1 << n {
				for q := range 1 << n {
					want = want && (p&q != 0 || !closure.Quorum(rest, p) || !closure.Quorum(rest, q))
				}
			}
			same(t, "Intersects", intersects, want)
			others, available := (1<<n-1)&^b, true
			for _, k := range nodeset.Nodes(others) {
				available = available && high.Members[k].Declared && threshold.Satisfied(high.Members[k].Trust, others)
			}
			got, _ := dispensable.Available(high, b)
			same(t, "Available", got, available)
			is := slices.Contains(all, b)
			same(t, "Is", is, intersects && available)
			if is {
				same(t, "undeclared ones", (1<<n-1)&^configuration.Declared(low)&^b, 0)
			}
			x, e := dispensable.Refute(low, high, b)
			same(t, "Refute", e == api.OK, !is)
			same(t, "Check", dispensable.Check(low, high, b, x), !is)
			for node := -1; node < n; node++ {
				same(t, "Check", is && dispensable.Check(low, high, b, api.Refutation{Node: node}), false)
			}
			if intersects {
				above, _ := dispensable.All(low, high, b)
				for _, p := range above {
					for _, q := range above {
						same(t, "closed", slices.Contains(above, p&q), true)
					}
				}
			}
		}
	}
}
