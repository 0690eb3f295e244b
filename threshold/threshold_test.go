package threshold_test

import (
	"fmt"
	"math"
	"math/rand"
	"testing"

	"trustquorum/api"
	"trustquorum/threshold"
)

func same[T comparable](t *testing.T, name string, got, want T) {
	t.Helper()
	if got != want {
		t.Errorf("%s: got %v, want %v", name, got, want)
	}
}

// of makes a trust of nodes and of inner trusts.
func of(k int, entries ...any) api.Trust {
	t := api.Trust{Threshold: k}
	for _, x := range entries {
		if node, ok := x.(int); ok {
			t.Nodes = append(t.Nodes, node)
		} else {
			t.Inner = append(t.Inner, x.(api.Trust))
		}
	}
	return t
}

// wide is a trust with n entries on the second level, and one on the first.
func wide(n int) api.Trust {
	inner := api.Trust{Threshold: 1}
	for range n {
		inner.Inner = append(inner.Inner, of(1, 0))
	}
	return of(1, inner)
}

// deep is a trust with so many levels.
func deep(levels int) api.Trust {
	t := of(1, 0)
	for range levels - 1 {
		t = of(1, t)
	}
	return t
}

// random makes a trust that is valid.
func random(r *rand.Rand, levels int) api.Trust {
	t := api.Trust{}
	for _, node := range r.Perm(10)[:r.Intn(5)] {
		t.Nodes = append(t.Nodes, node)
	}
	for range r.Intn(3) {
		if levels > 1 {
			t.Inner = append(t.Inner, random(r, levels-1))
		}
	}
	if n := len(t.Nodes) + len(t.Inner); n > 0 {
		t.Threshold = 1 + r.Intn(n)
		return t
	}
	return of(1, r.Intn(10))
}

var example = of(2, 0, 1, of(1, 2, 3))

// P2.1
func TestMeasures(t *testing.T) {
	for _, c := range []struct {
		t                 api.Trust
		size, depth, uses int
	}{
		{api.Trust{}, 0, 1, 0},
		{example, 5, 2, 15},
		{of(1, 3), 1, 1, 8},
		{of(-5, 10, -1, 9, 9, math.MaxInt), 5, 1, 512},
		{of(1, of(1), of(1, of(7, 4), 5)), 5, 3, 48},
		{deep(60000), 60000, 60000, 1},
	} {
		same(t, "Size", threshold.Size(c.t), c.size)
		same(t, "Depth", threshold.Depth(c.t), c.depth)
		same(t, "Uses", threshold.Uses(c.t), c.uses)
	}
}

// P2.1
func TestSame(t *testing.T) {
	different := []api.Trust{{}, example, of(1, 0, 1, of(1, 2, 3)), of(2, 1, 0, of(1, 2, 3)), of(2, 0, 1), of(2, 0, 1, of(1, 3, 2)), of(2, 0, 1, of(2, 2, 3)), of(2, 0, 1, of(1, 2, 3), of(1, 2, 3)), of(1, of(1, 2), of(1, 3)), of(1, of(1, 3), of(1, 2))}
	for i, a := range different {
		for k, b := range different {
			same(t, fmt.Sprint(a, b), threshold.Same(a, b), i == k)
		}
	}
	same(t, "nil and empty", threshold.Same(api.Trust{}, api.Trust{Nodes: []int{}, Inner: []api.Trust{}}), true)
}

// P2.2
func TestValid(t *testing.T) {
	many := api.Trust{Threshold: 1}
	for range 201 {
		many.Nodes = append(many.Nodes, -1)
	}
	for _, c := range []struct {
		t api.Trust
		e api.Errno
	}{
		{example, api.OK},
		{of(1, 0), api.OK},
		{of(2, 0, of(1, 0)), api.OK},
		{deep(4), api.OK},
		{deep(5), api.ErrLimit},
		{deep(60000), api.ErrLimit},
		{wide(99), api.OK},
		{of(1, 0, wide(99).Inner[0]), api.OK},
		{of(1, 0, 1, wide(99).Inner[0]), api.ErrLimit},
		{wide(100), api.ErrLimit},
		{many, api.ErrLimit},
		{of(0, deep(4)), api.ErrLimit},
		{api.Trust{}, api.ErrThreshold},
		{of(0, 1), api.ErrThreshold},
		{of(-1, 1), api.ErrThreshold},
		{of(3, 1, of(1, 2)), api.ErrThreshold},
		{of(math.MaxInt, 1), api.ErrThreshold},
		{of(2, 1, of(1, 2)), api.OK},
		{of(3, 10, 10), api.ErrThreshold},
		{of(1, 10), api.ErrNode},
		{of(1, -1), api.ErrNode},
		{of(1, 3, 3, 10), api.ErrNode},
		{of(1, 3, 3), api.ErrDuplicate},
		{of(1, 3, 3, of(0)), api.ErrDuplicate},
		{of(1, 3, of(0, 4), of(1, 10)), api.ErrThreshold},
		{of(1, 3, of(1, 10), of(0, 4)), api.ErrNode},
		{of(1, 3, of(1, 4, of(1, 10)), of(0, 4)), api.ErrNode},
		{of(1, 3, of(1, 4, 4, of(1, 10))), api.ErrDuplicate},
	} {
		same(t, fmt.Sprint(threshold.Size(c.t)), threshold.Valid(c.t), c.e)
	}
}

// P2.3
func TestSatisfied(t *testing.T) {
	for _, c := range []struct {
		t                  api.Trust
		s                  int
		satisfied, blocked bool
	}{
		{example, 5, true, false},
		{example, 3, true, true},
		{example, 12, false, false},
		{example, 13, true, true},
		{example, 2, false, false},
		{example, 1023, true, true},
		{example, 0, false, false},
		{example, -1, false, false},
		{example, 1024, false, false},
		{of(0), 0, true, false},
		{of(math.MinInt, 1), 0, true, false},
		{of(0), -1, false, false},
		{of(1), 1023, false, true},
		{of(1), 0, false, true},
		{of(1), 1024, false, false},
		{of(2, 3, 3), 8, true, true},
		{of(2, 3, 4), 8, false, true},
		{of(1, 10, -1), 1023, false, true},
		{of(1, of(0)), 0, true, false},
		{of(2, of(0), of(1, 2), of(5, 2)), 4, true, true},
	} {
		same(t, fmt.Sprint(c.t, c.s), threshold.Satisfied(c.t, c.s), c.satisfied)
		same(t, fmt.Sprint(c.t, c.s, " blocked"), threshold.Blocked(c.t, c.s), c.blocked)
	}
}

// P2.4
func TestDual(t *testing.T) {
	same(t, "example", threshold.Same(threshold.Dual(example), of(2, 0, 1, of(2, 2, 3))), true)
	for _, x := range []api.Trust{{}, of(7, 1), of(math.MinInt, 1, of(-3)), of(math.MaxInt), of(3, of(2, 1, 1), 4)} {
		same(t, "Dual of Dual", threshold.Same(threshold.Dual(threshold.Dual(x)), x), true)
	}
	same(t, "wraps", threshold.Dual(of(math.MinInt)).Threshold, math.MinInt+1)
	x := of(1, 0, of(1, 1))
	d := threshold.Dual(x)
	d.Nodes[0], d.Inner[0].Nodes[0], d.Inner[0].Threshold = 5, 5, 5
	same(t, "the argument stays", threshold.Same(x, of(1, 0, of(1, 1))), true)
}

// The consequences of the chapter.
func TestConsequences(t *testing.T) {
	r := rand.New(rand.NewSource(2))
	for range 60 {
		x := random(r, 3)
		same(t, "valid", threshold.Valid(x), api.OK)
		d := threshold.Dual(x)
		same(t, "Dual is valid", threshold.Valid(d), api.OK)
		for s := range 1024 {
			same(t, "Blocked", threshold.Blocked(x, s), threshold.Satisfied(d, s))
			for _, more := range []int{s | 1<<r.Intn(10)} {
				if threshold.Satisfied(x, s) {
					same(t, "more nodes", threshold.Satisfied(x, more), true)
				}
				if threshold.Blocked(x, s) {
					same(t, "more nodes", threshold.Blocked(x, more), true)
				}
			}
		}
	}
}
