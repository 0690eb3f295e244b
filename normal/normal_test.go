package normal_test

import (
	"fmt"
	"math/rand"
	"slices"
	"testing"

	"trustquorum/api"
	"trustquorum/normal"
	"trustquorum/notation"
	"trustquorum/threshold"
)

func same[T comparable](t *testing.T, name string, got, want T) {
	t.Helper()
	if got != want {
		t.Errorf("%s: got %v, want %v", name, got, want)
	}
}

func parse(t *testing.T, text string) api.Trust {
	t.Helper()
	x, _, e := notation.Parse(text)
	same(t, text, e, api.OK)
	return x
}

// P4.1
func TestCompare(t *testing.T) {
	var order []api.Trust
	order = append(order, api.Trust{Threshold: -1, Nodes: []int{99}}, api.Trust{})
	for _, text := range []string{"1 of (1 of (0))", "1 of (1 of (0), 1 of (0))", "1 of (1 of (0), 2 of (0, 1))", "1 of (0)", "1 of (0, 1 of (1 of (0)))", "1 of (0, 1 of (0))", "1 of (0, 1 of (1))", "1 of (0, 1)", "1 of (0, 1, 2)", "1 of (0, 2)", "1 of (1)", "1 of (1, 0)", "2 of (0, 1)"} {
		order = append(order, parse(t, text))
	}
	for i, a := range order {
		for k, b := range order {
			want := 0
			if i < k {
				want = -1
			} else if i > k {
				want = 1
			}
			same(t, fmt.Sprint(a, b), normal.Compare(a, b), want)
		}
	}
}

// P4.1
func TestNormal(t *testing.T) {
	for text, want := range map[string]string{
		"2 of (3, 1, 1 of (2))":                                       "2 of (1, 2, 3)",
		"1 of (0, 1 of (1, 1 of (0, 2)))":                             "1 of (0, 1, 2)",
		"2 of (0, 1, 1 of (0))":                                       "2 of (0, 1, 1 of (0))",
		"2 of (0, 1 of (0))":                                          "1 of (0)",
		"2 of (1 of (0), 1 of (0), 1)":                                "2 of (0, 1, 1 of (0))",
		"1 of (1 of (3))":                                             "1 of (3)",
		"1 of (1 of (3), 1 of (3))":                                   "1 of (3)",
		"1 of (2 of (3, 4, 5))":                                       "2 of (3, 4, 5)",
		"1 of (2 of (4, 3, 5), 2 of (5, 4, 3))":                       "2 of (3, 4, 5)",
		"2 of (2 of (4, 3, 5), 2 of (5, 4, 3))":                       "2 of (3, 4, 5)",
		"2 of (2 of (4, 3, 5), 2 of (5, 4, 3), 0)":                    "2 of (0, 2 of (3, 4, 5), 2 of (3, 4, 5))",
		"2 of (2 of (0, 1), 2 of (2, 1))":                             "3 of (0, 1, 2)",
		"2 of (2 of (0, 1), 3)":                                       "3 of (0, 1, 3)",
		"1 of (2 of (0, 1), 3)":                                       "1 of (3, 2 of (0, 1))",
		"2 of (1 of (0, 1), 3)":                                       "2 of (3, 1 of (0, 1))",
		"2 of (1 of (0, 1), 3, 4)":                                    "2 of (3, 4, 1 of (0, 1))",
		"2 of (2 of (0, 1), 3, 4)":                                    "2 of (3, 4, 2 of (0, 1))",
		"1 of (5, 1 of (4, 2 of (1, 0)), 1 of (5, 3, 2 of (0, 1)))":   "1 of (3, 4, 5, 2 of (0, 1))",
		"3 of (5, 2 of (4, 1 of (1, 0)), 3 of (5, 3, 1 of (0, 1)))":   "4 of (3, 4, 5, 1 of (0, 1))",
		"3 of (5, 2 of (4, 1 of (1, 0)), 2 of (5, 3, 1 of (0, 1)))":   "4 of (4, 5, 1 of (0, 1), 2 of (3, 5, 1 of (0, 1)))",
		"1 of (2 of (7, 2 of (3, 2)))":                                "3 of (2, 3, 7)",
		"2 of (9, 3 of (0, 1, 2, 4), 2 of (0, 1, 2), 2 of (0, 1, 3))": "2 of (9, 2 of (0, 1, 2), 2 of (0, 1, 3), 3 of (0, 1, 2, 4))",
	} {
		got, e := normal.Normal(parse(t, text))
		same(t, text, notation.Text(got), want)
		same(t, text, e, api.OK)
		canonical, _ := notation.Canonical(text)
		same(t, text, normal.Is(parse(t, text)), canonical == want)
		same(t, want, normal.Is(parse(t, want)), true)
	}
	for _, x := range []api.Trust{{}, {Threshold: 1, Nodes: []int{10}}, {Threshold: 2, Nodes: []int{1, 1}}, {Threshold: 1, Inner: []api.Trust{{}}}} {
		got, e := normal.Normal(x)
		same(t, "error", e, threshold.Valid(x))
		same(t, "error", threshold.Same(got, api.Trust{}), true)
		same(t, "error", normal.Is(x), false)
	}
}

// shuffle changes the order of all entries.
func shuffle(r *rand.Rand, x api.Trust) api.Trust {
	y := api.Trust{Threshold: x.Threshold, Nodes: slices.Clone(x.Nodes)}
	r.Shuffle(len(y.Nodes), func(i, k int) { y.Nodes[i], y.Nodes[k] = y.Nodes[k], y.Nodes[i] })
	for _, k := range r.Perm(len(x.Inner)) {
		y.Inner = append(y.Inner, shuffle(r, x.Inner[k]))
	}
	return y
}

func random(r *rand.Rand, levels int) api.Trust {
	x := api.Trust{Nodes: r.Perm(4)[:r.Intn(4)]}
	for range r.Intn(4) {
		if levels > 1 {
			x.Inner = append(x.Inner, random(r, levels-1))
		}
	}
	n := len(x.Nodes) + len(x.Inner)
	if n == 0 {
		return api.Trust{Threshold: 1, Nodes: []int{r.Intn(4)}}
	}
	x.Threshold = []int{1, n, 1 + r.Intn(n)}[r.Intn(3)]
	return x
}

// The consequences of the chapter.
func TestConsequences(t *testing.T) {
	r := rand.New(rand.NewSource(4))
	for range 3000 {
		x := random(r, 4)
		before := fmt.Sprint(x)
		n, e := normal.Normal(x)
		same(t, "error", e, api.OK)
		same(t, "the argument stays", fmt.Sprint(x), before)
		same(t, "valid", threshold.Valid(n), api.OK)
		same(t, "its own", normal.Is(n), true)
		same(t, "entries", threshold.Size(n) <= threshold.Size(x), true)
		same(t, "levels", threshold.Depth(n) <= threshold.Depth(x), true)
		for s := range 16 {
			same(t, notation.Text(x), threshold.Satisfied(n, s), threshold.Satisfied(x, s))
		}
		other, _ := normal.Normal(shuffle(r, x))
		same(t, notation.Text(x), notation.Text(other), notation.Text(n))
	}
}
