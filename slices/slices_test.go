package slices_test

import (
	"fmt"
	"math/rand"
	"testing"

	"trustquorum/api"
	"trustquorum/nodeset"
	"trustquorum/normal"
	"trustquorum/notation"
	"trustquorum/slices"
	"trustquorum/threshold"
)

func same[T comparable](t *testing.T, name string, got, want T) {
	t.Helper()
	if got != want {
		t.Errorf("%s: got %v, want %v", name, got, want)
	}
}

func parse(t *testing.T, text string) api.Trust {
	t.Helper()
	x, _, e := notation.Parse(text)
	same(t, text, e, api.OK)
	return x
}

var broken = []api.Trust{{}, {Threshold: 1, Nodes: []int{10}}, {Threshold: 2, Nodes: []int{1, 1}}}

// P5.1
func TestSlices(t *testing.T) {
	for text, want := range map[string][2][]int{
		"2 of (0, 1, 1 of (2, 3))": {{3, 5, 6, 9, 10}, {3, 13, 14}},
		"1 of (9)":                 {{512}, {512}},
		"1 of (0, 2 of (0, 1))":    {{1}, {1}},
		"2 of (4, 5, 6)":           {{48, 80, 96}, {48, 80, 96}},
		"1 of (4, 5)":              {{16, 32}, {48}},
		"1 of (2 of (0, 1), 3)":    {{8, 3}, {9, 10}},
	} {
		got, e := slices.Slices(parse(t, text))
		same(t, text, fmt.Sprint(got, e), fmt.Sprint(want[0], 0))
		got, e = slices.Blocking(parse(t, text))
		same(t, text, fmt.Sprint(got, e), fmt.Sprint(want[1], 0))
	}
	for _, x := range broken {
		got, e := slices.Slices(x)
		same(t, "Slices", fmt.Sprint(got, e), fmt.Sprint([]int{}, threshold.Valid(x)))
		got, e = slices.Blocking(x)
		same(t, "Blocking", fmt.Sprint(got, e), fmt.Sprint([]int{}, threshold.Valid(x)))
	}
}

// P5.2
func TestOf(t *testing.T) {
	var many, fit []int
	for s := range 1024 {
		if nodeset.Size(s) == 2 {
			many = append(many, s)
		}
		if nodeset.Size(s) == 4 && len(fit) < 40 {
			fit = append(fit, s)
		}
	}
	for _, c := range []struct {
		l    []int
		text string
		e    api.Errno
	}{
		{[]int{3}, "2 of (0, 1)", api.OK},
		{[]int{4}, "1 of (2)", api.OK},
		{[]int{3, 4}, "1 of (2, 2 of (0, 1))", api.OK},
		{[]int{7, 3, 3, 8}, "1 of (3, 2 of (0, 1))", api.OK},
		{[]int{9, 3}, "1 of (2 of (0, 1), 2 of (0, 3))", api.OK},
		{nil, "?", api.ErrInvalid},
		{[]int{0}, "?", api.ErrInvalid},
		{[]int{3, 0}, "?", api.ErrInvalid},
		{[]int{-1}, "?", api.ErrInvalid},
		{[]int{1024}, "?", api.ErrInvalid},
		{append(many[:len(many):len(many)], fit...), "", api.OK},
		{fit, "", api.OK},
		{append(fit[:40:40], 1<<8|1<<9), "?", api.ErrLimit},
		{append(fit[:40:40], 1<<8|1<<9, 0), "?", api.ErrInvalid},
	} {
		x, e := slices.Of(c.l)
		same(t, fmt.Sprint(c.l), e, c.e)
		if c.text != "" {
			same(t, fmt.Sprint(c.l), notation.Text(x), c.text)
		}
		if e == api.OK {
			same(t, "normal", normal.Is(x), true)
			back, _ := slices.Slices(x)
			same(t, "back", fmt.Sprint(back), fmt.Sprint(nodeset.Least(c.l)))
		} else {
			same(t, "zero", threshold.Same(x, api.Trust{}), true)
		}
	}
}

// P5.3
func TestImplies(t *testing.T) {
	for _, c := range []struct {
		a, b string
		ok   bool
		s    int
	}{
		{"2 of (0, 1)", "1 of (0, 1)", true, 0},
		{"1 of (0, 1)", "2 of (0, 1)", false, 1},
		{"1 of (3, 2)", "1 of (3)", false, 4},
		{"2 of (0, 1, 2)", "2 of (0, 1)", false, 5},
		{"1 of (2)", "1 of (2, 3)", true, 0},
		{"1 of (9, 2 of (0, 1))", "1 of (9)", false, 3},
	} {
		ok, s, e := slices.Implies(parse(t, c.a), parse(t, c.b))
		same(t, c.a+" "+c.b, fmt.Sprint(ok, s, e), fmt.Sprint(c.ok, c.s, 0))
		ok, s, e = slices.Implies(parse(t, c.a), parse(t, c.a))
		same(t, c.a, fmt.Sprint(ok, s, e), "true 0 0")
	}
	x := parse(t, "1 of (0)")
	for _, y := range broken {
		ok, s, e := slices.Implies(y, x)
		same(t, "first", fmt.Sprint(ok, s, e), fmt.Sprint(false, 0, threshold.Valid(y)))
		ok, s, e = slices.Implies(x, y)
		same(t, "second", fmt.Sprint(ok, s, e), fmt.Sprint(false, 0, threshold.Valid(y)))
		ok, s, e = slices.Equivalent(y, x)
		same(t, "first", fmt.Sprint(ok, s, e), fmt.Sprint(false, 0, threshold.Valid(y)))
		ok, s, e = slices.Equivalent(x, y)
		same(t, "second", fmt.Sprint(ok, s, e), fmt.Sprint(false, 0, threshold.Valid(y)))
	}
	_, _, e := slices.Implies(broken[1], broken[2])
	same(t, "both", e, api.ErrNode)
}

// P5.3
func TestEquivalent(t *testing.T) {
	for _, c := range []struct {
		a, b string
		ok   bool
		s    int
	}{
		{"2 of (0, 1)", "1 of (2 of (1, 0))", true, 0},
		{"1 of (0, 2 of (0, 1))", "1 of (0)", true, 0},
		{"1 of (0, 1)", "2 of (0, 1)", false, 1},
		{"2 of (0, 1)", "1 of (0, 1)", false, 1},
		{"2 of (0, 1, 2)", "2 of (0, 2)", false, 3},
		{"1 of (3)", "1 of (2)", false, 4},
	} {
		ok, s, e := slices.Equivalent(parse(t, c.a), parse(t, c.b))
		same(t, c.a+" "+c.b, fmt.Sprint(ok, s, e), fmt.Sprint(c.ok, c.s, 0))
	}
}

func random(r *rand.Rand, levels int) api.Trust {
	x := api.Trust{Nodes: r.Perm(10)[:1+r.Intn(4)]}
	for range r.Intn(3) {
		if levels > 1 {
			x.Inner = append(x.Inner, random(r, levels-1))
		}
	}
	x.Threshold = 1 + r.Intn(len(x.Nodes)+len(x.Inner))
	return x
}

// The consequences of the chapter.
func TestConsequences(t *testing.T) {
	r := rand.New(rand.NewSource(5))
	for range 40 {
		x := random(r, 3)
		l, _ := slices.Slices(x)
		for s := range 1024 {
			found := false
			for _, q := range l {
				found = found || q&^s == 0
			}
			same(t, "satisfied", threshold.Satisfied(x, s), found)
		}
		blocking, _ := slices.Blocking(x)
		meeting, _ := nodeset.Meeting(l, 10)
		same(t, "blocking", fmt.Sprint(blocking), fmt.Sprint(meeting))
		meeting, _ = nodeset.Meeting(blocking, 10)
		same(t, "slices", fmt.Sprint(l), fmt.Sprint(meeting))
		n, _ := normal.Normal(x)
		ok, _, _ := slices.Equivalent(x, n)
		same(t, "normal", ok, true)
	}
}
