package danger_test

import (
	"fmt"
	"math"
	"math/rand"
	"slices"
	"testing"

	"trustquorum/api"
	"trustquorum/closure"
	"trustquorum/configuration"
	"trustquorum/danger"
	"trustquorum/deletion"
	"trustquorum/nodeset"
	"trustquorum/quorums"
)

func same[T comparable](t *testing.T, name string, got, want T) {
	t.Helper()
	if got != want {
		t.Errorf("%s: got %v, want %v", name, got, want)
	}
}

func parse(t *testing.T, text string) api.Config {
	t.Helper()
	c, _, e := configuration.Parse(text)
	same(t, text, e, api.OK)
	return c
}

// uniform is a configuration of n members with the threshold k.
func uniform(n, k int) api.Config {
	var c api.Config
	for range n {
		c.Members = append(c.Members, api.Member{Declared: true, Trust: api.Trust{Threshold: k, Nodes: nodeset.Nodes(1<<n - 1)}})
	}
	return c
}

// P16.1
func TestSets(t *testing.T) {
	for _, c := range []struct {
		c             api.Config
		s             int
		splits, halts bool
		a, b          int
	}{
		{uniform(4, 3), 0, false, false, 0, 0},
		{uniform(4, 3), 1, false, false, 0, 0},
		{uniform(4, 3), 3, true, true, 4, 8},
		{uniform(4, 3), 7, false, true, 0, 0},
		{uniform(4, 3), 15, false, true, 0, 0},
		{uniform(4, 2), 0, true, false, 3, 12},
		{uniform(4, 2), 1, true, false, 2, 12},
		{uniform(4, 4), 1, false, true, 0, 0},
		{uniform(10, 6), 3, true, false, 60, 960},
		{parse(t, "0: 1 of (0)\n1: 1 of (1)\n2: -"), 0, true, false, 1, 2},
		{parse(t, "0: 1 of (0)\n1: 1 of (1)\n2: -"), 1, false, false, 0, 0},
		{parse(t, "0: 1 of (0)\n1: 1 of (1)\n2: -"), 3, false, true, 0, 0},
		{api.Config{}, 0, false, true, 0, 0},
	} {
		splits, e := danger.Splits(c.c, c.s)
		same(t, fmt.Sprint(c), fmt.Sprint(splits, e), fmt.Sprint(c.splits, 0))
		halts, e := danger.Halts(c.c, c.s)
		same(t, fmt.Sprint(c), fmt.Sprint(halts, e), fmt.Sprint(c.halts, 0))
		want := api.ErrNone
		if c.splits {
			want = api.OK
		}
		a, b, e := danger.Pair(c.c, c.s)
		same(t, fmt.Sprint(c), fmt.Sprint(a, b, e), fmt.Sprint(c.a, c.b, want))
	}
	for _, c := range []struct {
		c api.Config
		s int
		e api.Errno
	}{
		{uniform(4, 3), 16, api.ErrInvalid},
		{uniform(4, 3), -1, api.ErrInvalid},
		{uniform(10, 3), 1024, api.ErrInvalid},
		{uniform(4, 3), math.MinInt, api.ErrInvalid},
		{uniform(4, 5), -1, api.ErrThreshold},
		{api.Config{Members: make([]api.Member, 11)}, 0, api.ErrLimit},
	} {
		splits, e := danger.Splits(c.c, c.s)
		same(t, "Splits", fmt.Sprint(splits, e), fmt.Sprint(false, c.e))
		halts, e := danger.Halts(c.c, c.s)
		same(t, "Halts", fmt.Sprint(halts, e), fmt.Sprint(false, c.e))
		a, b, e := danger.Pair(c.c, c.s)
		same(t, "Pair", fmt.Sprint(a, b, e), fmt.Sprint(0, 0, c.e))
	}
}

// P16.2 and P16.3
func TestLeast(t *testing.T) {
	for _, c := range []struct {
		c                  api.Config
		splitting, halting []int
		liars, silent      int
	}{
		{uniform(4, 3), []int{3, 5, 6, 9, 10, 12}, []int{3, 5, 6, 9, 10, 12}, 1, 1},
		{uniform(4, 2), []int{0}, []int{7, 11, 13, 14}, -1, 2},
		{uniform(3, 3), nil, []int{1, 2, 4}, 3, 0},
		{uniform(1, 1), nil, []int{1}, 1, 0},
		{uniform(7, 5), nil, nil, 2, 2},
		{parse(t, "0: -\n1: -"), nil, []int{0}, 2, -1},
		{parse(t, "0: 1 of (0)\n1: 2 of (0, 1)\n2: 2 of (0, 2)"), []int{1}, []int{1}, 0, 0},
		{api.Config{}, nil, []int{0}, 0, -1},
	} {
		splitting, e := danger.Splitting(c.c)
		same(t, "Splitting", e, api.OK)
		halting, e := danger.Halting(c.c)
		same(t, "Halting", e, api.OK)
		if len(c.c.Members) < 7 {
			same(t, "Splitting", fmt.Sprint(splitting), fmt.Sprint(c.splitting))
			same(t, "Halting", fmt.Sprint(halting), fmt.Sprint(c.halting))
		}
		liars, silent, e := danger.Tolerates(c.c)
		same(t, fmt.Sprint(c), fmt.Sprint(liars, silent, e), fmt.Sprint(c.liars, c.silent, 0))
	}
	halting, e := danger.Halting(uniform(10, 9))
	same(t, "ten members", fmt.Sprint(len(halting), e), fmt.Sprint(45, 0))
	for _, c := range []api.Config{uniform(8, 5), uniform(8, 9), {Members: make([]api.Member, 11)}} {
		want := configuration.Valid(c)
		halting, e := danger.Halting(c)
		if want != api.OK {
			same(t, "Halting", fmt.Sprint(halting, e), fmt.Sprint([]int{}, want))
		} else {
			want = api.ErrLimit
			same(t, "Halting", e, api.OK)
		}
		splitting, e := danger.Splitting(c)
		same(t, "Splitting", fmt.Sprint(splitting, e), fmt.Sprint([]int{}, want))
		liars, silent, e := danger.Tolerates(c)
		same(t, "Tolerates", fmt.Sprint(liars, silent, e), fmt.Sprint(0, 0, want))
	}
}

// The consequences of the chapter, and the definitions.
func TestConsequences(t *testing.T) {
	r := rand.New(rand.NewSource(16))
	for range 60 {
		n := 1 + r.Intn(5)
		var c api.Config
		for range n {
			x := api.Trust{Nodes: r.Perm(n)[:1+r.Intn(n)]}
			x.Threshold = 1 + r.Intn(len(x.Nodes))
			c.Members = append(c.Members, api.Member{Declared: true, Trust: x})
		}
		minimal, _ := quorums.Minimal(c)
		meeting, _ := nodeset.Meeting(minimal, n)
		halting, _ := danger.Halting(c)
		same(t, "Halting", fmt.Sprint(halting), fmt.Sprint(meeting))
		var splits, halts []int
		for s := range 1 << n {
			halt, _ := danger.Halts(c, s)
			meets := !slices.ContainsFunc(minimal, func(q int) bool { return q&s == 0 })
			same(t, "Halts", halt, meets)
			more, _ := danger.Halts(c, s|1<<r.Intn(n))
			same(t, "more", halt && !more, false)
			rest := deletion.Delete(c, s)
			apart := false
			for p := range 1 << n {
				for q := range 1 << n {
					apart = apart || p&q == 0 && closure.Quorum(rest, p) && closure.Quorum(rest, q)
				}
			}
			split, _ := danger.Splits(c, s)
			same(t, "Splits", split, apart)
			if split {
				splits = append(splits, s)
			}
			if halt {
				halts = append(halts, s)
			}
		}
		splitting, _ := danger.Splitting(c)
		same(t, "Splitting", fmt.Sprint(splitting), fmt.Sprint(nodeset.Least(splits)))
		same(t, "Halting", fmt.Sprint(halting), fmt.Sprint(nodeset.Least(halts)))
	}
}
