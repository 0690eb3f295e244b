package notation_test

import (
	"fmt"
	"math/rand"
	"strings"
	"testing"

	"trustquorum/api"
	"trustquorum/notation"
	"trustquorum/threshold"
)

func same[T comparable](t *testing.T, name string, got, want T) {
	t.Helper()
	if got != want {
		t.Errorf("%s: got %v, want %v", name, got, want)
	}
}

func trust(k int, nodes []int, inner ...api.Trust) api.Trust {
	return api.Trust{Threshold: k, Nodes: nodes, Inner: inner}
}

func nodes(l ...int) []int { return l }

// P3.1
func TestParse(t *testing.T) {
	for text, want := range map[string]api.Trust{
		"2of( 1 of (2,3),0 )":        trust(2, nodes(0), trust(1, nodes(2, 3))),
		"1 of (0)":                   trust(1, nodes(0)),
		"10 of(0,1,2,3,4,5,6,7,8,9)": trust(10, nodes(0, 1, 2, 3, 4, 5, 6, 7, 8, 9)),
		"1of(0)":                     trust(1, nodes(0)),
		"   1   of   (   9   )   ":   trust(1, nodes(9)),
		"3 of (1, 1 of (5), 0, 2 of (4, 1 of (3, 2), 1))": trust(3, nodes(1, 0), trust(1, nodes(5)), trust(2, nodes(4, 1), trust(1, nodes(3, 2)))),
		"1 of (1 of (1 of (1 of (0))))":                   trust(1, nil, trust(1, nil, trust(1, nil, trust(1, nodes(0))))),
	} {
		got, place, e := notation.Parse(text)
		same(t, text, fmt.Sprint(got), fmt.Sprint(want))
		same(t, text, place, 0)
		same(t, text, e, api.OK)
	}
}

// P3.1
func TestParseErrors(t *testing.T) {
	for _, c := range []struct {
		text  string
		place int
		e     api.Errno
	}{
		{"", 0, api.ErrSyntax},
		{"   ", 3, api.ErrSyntax},
		{"2", 1, api.ErrSyntax},
		{"2 ", 2, api.ErrSyntax},
		{"2 of", 4, api.ErrSyntax},
		{"2 of (", 6, api.ErrSyntax},
		{"2 of (0", 7, api.ErrSyntax},
		{"2 of (0  ", 9, api.ErrSyntax},
		{"2 of (0,", 8, api.ErrSyntax},
		{"2 of (0, )", 9, api.ErrSyntax},
		{"2 of ()", 6, api.ErrSyntax},
		{"2 of (,0)", 6, api.ErrSyntax},
		{"2 of (0 1)", 8, api.ErrSyntax},
		{"2 of (0))", 8, api.ErrSyntax},
		{"1 of (0) 1", 9, api.ErrSyntax},
		{"1 of (0) x", 9, api.ErrSyntax},
		{"02 of (0)", 0, api.ErrSyntax},
		{"2 of (00)", 6, api.ErrSyntax},
		{"1 of (0, 012)", 9, api.ErrSyntax},
		{"10000 of (0)", 0, api.ErrSyntax},
		{"1 of (12345)", 6, api.ErrSyntax},
		{"of (0)", 0, api.ErrSyntax},
		{"(0)", 0, api.ErrSyntax},
		{"1 o (0)", 2, api.ErrSyntax},
		{"1 o", 2, api.ErrSyntax},
		{"1 o f (0)", 2, api.ErrSyntax},
		{"1 off (0)", 4, api.ErrSyntax},
		{"1 of of (0)", 5, api.ErrSyntax},
		{"1 Of (0)", 2, api.ErrSyntax},
		{"1 of (0)\n", 8, api.ErrSyntax},
		{"1\tof (0)", 1, api.ErrSyntax},
		{"-1 of (0)", 0, api.ErrSyntax},
		{"1 of (1 of (0)", 14, api.ErrSyntax},
		{"1 of (1 of (0) of", 15, api.ErrSyntax},
		{"1 of 0", 5, api.ErrSyntax},
		{"9999 of (10, \xff)", 13, api.ErrSyntax},
		{"0 of (0)", 0, api.ErrThreshold},
		{"9999 of (0)", 0, api.ErrThreshold},
		{"2 of (0)", 0, api.ErrThreshold},
		{"1 of (10)", 0, api.ErrNode},
		{"1 of (9999)", 0, api.ErrNode},
		{"1 of (1, 1)", 0, api.ErrDuplicate},
		{"1 of (1 of (1 of (1 of (1 of (0)))))", 0, api.ErrLimit},
		{strings.Repeat("1 of (", 900), 5400, api.ErrSyntax},
		{"1 of (0)" + strings.Repeat(" ", 5993), 0, api.ErrLimit},
		{strings.Repeat("x", 6001), 0, api.ErrLimit},
		{strings.Repeat(" ", 6000), 6000, api.ErrSyntax},
	} {
		got, place, e := notation.Parse(c.text)
		same(t, c.text, fmt.Sprint(got), fmt.Sprint(api.Trust{}))
		same(t, c.text, place, c.place)
		same(t, c.text, e, c.e)
		text, e := notation.Canonical(c.text)
		same(t, c.text, text, "")
		same(t, c.text, e, c.e)
	}
	_, _, e := notation.Parse("1 of (0)" + strings.Repeat(" ", 5992))
	same(t, "6000 bytes", e, api.OK)
}

// P3.2
func TestText(t *testing.T) {
	for want, x := range map[string]api.Trust{
		"1 of (0)":                           trust(1, nodes(0)),
		"2 of (0, 1 of (2, 3))":              trust(2, nodes(0), trust(1, nodes(2, 3))),
		"2 of (1 of (2), 1 of (2))":          trust(2, nil, trust(1, nodes(2)), trust(1, nodes(2))),
		"1 of (3, 0, 2 of (9, 1 of (8, 7)))": trust(1, nodes(3, 0), trust(2, nodes(9), trust(1, nodes(8, 7)))),
		"?":                                  trust(1, nodes(10)),
	} {
		same(t, want, notation.Text(x), want)
	}
	same(t, "zero", notation.Text(api.Trust{}), "?")
	same(t, "inner", notation.Text(trust(1, nodes(0), trust(0, nodes(0)))), "?")
	got, e := notation.Canonical("2of( 1 of (2,3),0 )")
	same(t, "Canonical", got, "2 of (0, 1 of (2, 3))")
	same(t, "Canonical", e, api.OK)
	got, _ = notation.Canonical("1 of (3,2,0)")
	same(t, "Canonical", got, "1 of (3, 2, 0)")
}

// A valid trust comes back from its text; Canonical of Canonical is Canonical.
func TestBack(t *testing.T) {
	r := rand.New(rand.NewSource(3))
	var random func(levels int) api.Trust
	random = func(levels int) api.Trust {
		x := trust(1, r.Perm(10)[:1+r.Intn(3)])
		for range r.Intn(3) {
			if levels > 1 {
				x.Inner = append(x.Inner, random(levels-1))
			}
		}
		x.Threshold += r.Intn(len(x.Nodes) + len(x.Inner))
		return x
	}
	for range 300 {
		x := random(4)
		text := notation.Text(x)
		back, place, e := notation.Parse(text)
		same(t, text, threshold.Same(back, x), true)
		same(t, text, place, 0)
		same(t, text, e, api.OK)
		again, _ := notation.Canonical(strings.ReplaceAll(text, " ", "  "))
		same(t, text, again, text)
	}
}
