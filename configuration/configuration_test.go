package configuration_test

import (
	"fmt"
	"math"
	"math/rand"
	"slices"
	"strings"
	"testing"

	"trustquorum/api"
	"trustquorum/configuration"
	"trustquorum/notation"
	"trustquorum/threshold"
)

func same[T comparable](t *testing.T, name string, got, want T) {
	t.Helper()
	if got != want {
		t.Errorf("%s: got %v, want %v", name, got, want)
	}
}

func trust(k int, nodes ...int) api.Trust { return api.Trust{Threshold: k, Nodes: nodes} }

// of makes a configuration; a trust with the threshold -9 stands for a member that is not declared.
func of(l ...api.Trust) api.Config {
	var c api.Config
	for _, x := range l {
		if x.Threshold == -9 {
			c.Members = append(c.Members, api.Member{})
		} else {
			c.Members = append(c.Members, api.Member{Declared: true, Trust: x})
		}
	}
	return c
}

var none = trust(-9)

// P6.1
func TestValid(t *testing.T) {
	ten := of(slices.Repeat([]api.Trust{trust(1, 9)}, 10)...)
	deep := api.Trust{}
	for range 5 {
		deep = api.Trust{Threshold: 1, Inner: []api.Trust{deep}}
	}
	hidden := of(none, trust(1, 0))
	for _, c := range []struct {
		c api.Config
		e api.Errno
	}{
		{of(), api.OK},
		{of(none), api.OK},
		{of(trust(1, 0), none), api.OK},
		{of(trust(2, 0, 1), none), api.OK},
		{ten, api.OK},
		{of(slices.Repeat([]api.Trust{trust(0)}, 11)...), api.ErrLimit},
		{api.Config{Members: make([]api.Member, 11)}, api.ErrLimit},
		{api.Config{Members: []api.Member{{Trust: trust(1)}}}, api.ErrInvalid},
		{api.Config{Members: []api.Member{{Trust: trust(0, 0)}}}, api.ErrInvalid},
		{api.Config{Members: []api.Member{{Trust: api.Trust{Inner: []api.Trust{{}}}}}}, api.ErrInvalid},
		{of(trust(0, 0)), api.ErrThreshold},
		{of(trust(1, 10)), api.ErrNode},
		{of(trust(1, 1)), api.ErrNode},
		{of(trust(1, 0), trust(1, 0, 2)), api.ErrNode},
		{of(api.Trust{Threshold: 1, Nodes: []int{0}, Inner: []api.Trust{trust(1, 5)}}), api.ErrNode},
		{of(trust(1, 0, 0)), api.ErrDuplicate},
		{of(deep), api.ErrLimit},
		{of(trust(1, 2), trust(0)), api.ErrNode},
		{of(trust(0), trust(1, 2)), api.ErrThreshold},
		{of(trust(1, 3, 3)), api.ErrDuplicate},
	} {
		same(t, fmt.Sprint(c.c), configuration.Valid(c.c), c.e)
	}
	same(t, "undeclared", configuration.Valid(hidden), api.OK)
}

// P6.1
func TestDeclared(t *testing.T) {
	same(t, "empty", configuration.Declared(of()), 0)
	same(t, "some", configuration.Declared(of(trust(1, 0), none, trust(0))), 5)
	same(t, "ten", configuration.Declared(of(slices.Repeat([]api.Trust{trust(1, 0)}, 12)...)), 1023)
	same(t, "seventy", configuration.Declared(of(slices.Repeat([]api.Trust{trust(1, 0)}, 70)...)), 1023)
}

// P6.1
func TestSame(t *testing.T) {
	l := []api.Config{of(), of(none), of(none, none), of(trust(0)), of(trust(1, 0)), of(trust(1, 0), none), of(none, trust(1, 0)), of(trust(1, 0), trust(1, 0)), of(trust(1, 0), trust(1, 1)), {Members: []api.Member{{Trust: trust(1, 0)}}}}
	for i, a := range l {
		for k, b := range l {
			same(t, fmt.Sprint(a, b), configuration.Same(a, b), i == k)
		}
	}
}

// P6.2
func TestRestrict(t *testing.T) {
	c := of(trust(1, 0), trust(1, 1), none, trust(0))
	c.Members[2].Trust = trust(7)
	for s, want := range map[int]api.Config{
		0:             of(none, none, none, none),
		1:             of(trust(1, 0), none, none, none),
		10:            of(none, trust(1, 1), none, trust(0)),
		-1:            of(none, none, none, none),
		1024:          of(none, none, none, none),
		1025:          of(none, none, none, none),
		math.MinInt:   of(none, none, none, none),
		math.MaxInt:   of(none, none, none, none),
		1<<40 | 1<<10: of(none, none, none, none),
		1023:          c,
	} {
		same(t, fmt.Sprint(s), configuration.Same(configuration.Restrict(c, s), want), true)
	}
	many := of(slices.Repeat([]api.Trust{trust(1, 0)}, 70)...)
	same(t, "many", configuration.Declared(configuration.Restrict(many, 1023)), 1023)
	same(t, "behind the tenth", configuration.Restrict(many, 1023).Members[10].Declared, false)
	r := configuration.Restrict(c, 1)
	r.Members[0].Trust.Nodes[0] = 5
	same(t, "no shared memory", c.Members[0].Trust.Nodes[0], 0)
}

// P6.2
func TestRename(t *testing.T) {
	inner := api.Trust{Threshold: 2, Nodes: []int{0, 2}, Inner: []api.Trust{trust(1, 1, 0)}}
	moved := api.Trust{Threshold: 2, Nodes: []int{2, 1}, Inner: []api.Trust{trust(1, 0, 2)}}
	got, e := configuration.Rename(of(inner, none, trust(1, 0)), []int{2, 0, 1})
	same(t, "renamed", e, api.OK)
	same(t, "renamed", configuration.Same(got, of(none, trust(1, 2), moved)), true)
	got, e = configuration.Rename(of(), nil)
	same(t, "empty", fmt.Sprint(got, e), fmt.Sprint(of(), api.OK))
	c := of(trust(1, 0), trust(1, 1))
	for _, p := range [][]int{nil, {0}, {0, 0}, {1, 1}, {0, 2}, {-1, 0}, {0, 1, 2}, {0, 1, 1}, {1, math.MaxInt}} {
		got, e := configuration.Rename(c, p)
		same(t, "no order", e, api.ErrInvalid)
		same(t, "no order", len(got.Members), 0)
	}
	_, e = configuration.Rename(of(trust(0)), []int{5})
	same(t, "not valid", e, api.ErrThreshold)
}

// P6.3 and P6.4
func TestText(t *testing.T) {
	for text, c := range map[string]api.Config{
		"":                         of(),
		"0: -\n":                   of(none),
		"0: 2 of (0, 1)\n1: -\n":   of(trust(2, 0, 1), none),
		"0: 1 of (1)\n1: 1 of (0)": of(trust(1, 1), trust(1, 0)),
	} {
		want := text
		if text != "" && !strings.HasSuffix(text, "\n") {
			want += "\n"
		}
		same(t, text, configuration.Text(c), want)
		got, line, e := configuration.Parse(text)
		same(t, text, configuration.Same(got, c), true)
		same(t, text, line, 0)
		same(t, text, e, api.OK)
	}
	same(t, "spaces", fmt.Sprint(configuration.Parse("0:  1of( 0 )  ")), fmt.Sprint(of(trust(1, 0)), 0, api.OK))
	same(t, "not valid", configuration.Text(of(trust(1, 1))), "?")
	same(t, "too many", configuration.Text(api.Config{Members: make([]api.Member, 11)}), "?")
}

// P6.4
func TestParseErrors(t *testing.T) {
	ten := ""
	for k := range 10 {
		ten += fmt.Sprint(k, ": -\n")
	}
	got, _, e := configuration.Parse(ten)
	same(t, "ten", len(got.Members), 10)
	same(t, "ten", e, api.OK)
	for _, c := range []struct {
		text string
		line int
		e    api.Errno
	}{
		{strings.Repeat("x", api.MaxText+1), 0, api.ErrLimit},
		{strings.Repeat("x", api.MaxText), 1, api.ErrSyntax},
		{ten + "10: -", 11, api.ErrLimit},
		{ten + "\n", 11, api.ErrLimit},
		{ten + "x\nx", 11, api.ErrLimit},
		{"0: -\nx\n" + ten, 2, api.ErrSyntax},
		{"\n", 1, api.ErrSyntax},
		{"0: -\n\n", 2, api.ErrSyntax},
		{"0: -\n\n1: -", 2, api.ErrSyntax},
		{"1: -", 1, api.ErrSyntax},
		{"0: -\n0: -", 2, api.ErrSyntax},
		{"0:-", 1, api.ErrSyntax},
		{"0 : -", 1, api.ErrSyntax},
		{" 0: -", 1, api.ErrSyntax},
		{"00: -", 1, api.ErrSyntax},
		{"0: ", 1, api.ErrSyntax},
		{"0: - ", 1, api.ErrSyntax},
		{"0:  -", 1, api.ErrSyntax},
		{"0: -\r\n", 1, api.ErrSyntax},
		{"0: 1 of (0", 1, api.ErrSyntax},
		{"0: 2 of (0)", 1, api.ErrThreshold},
		{"0: 1 of (10)", 1, api.ErrNode},
		{"0: 1 of (1)", 1, api.ErrNode},
		{"0: 1 of (0)\n1: 1 of (2)\n", 2, api.ErrNode},
		{"0: 1 of (2)\n1: 1 of (1, 1)\n", 2, api.ErrDuplicate},
		{"0: 1 of (2)\n1: 1 of (7)\n", 1, api.ErrNode},
		{"0: 1 of (1 of (1 of (1 of (1 of (0)))))", 1, api.ErrLimit},
	} {
		got, line, e := configuration.Parse(c.text)
		same(t, c.text, len(got.Members), 0)
		same(t, c.text, line, c.line)
		same(t, c.text, e, c.e)
	}
}

// The consequences of the chapter.
func TestBack(t *testing.T) {
	r := rand.New(rand.NewSource(6))
	for range 200 {
		var c api.Config
		n := r.Intn(11)
		for range n {
			x := api.Trust{Threshold: 1, Nodes: r.Perm(n)[:1+r.Intn(n)]}
			if r.Intn(2) == 0 {
				x.Inner = []api.Trust{{Threshold: 1, Nodes: r.Perm(n)[:1+r.Intn(n)]}}
			}
			c.Members = append(c.Members, api.Member{Declared: true, Trust: x})
			if r.Intn(4) == 0 {
				c.Members[len(c.Members)-1] = api.Member{}
			}
		}
		back, _, e := configuration.Parse(configuration.Text(c))
		same(t, "Parse", e, api.OK)
		same(t, "Parse", configuration.Same(back, c), true)
		p := r.Perm(n)
		inverse := make([]int, n)
		for k, x := range p {
			inverse[x] = k
		}
		there, _ := configuration.Rename(c, p)
		same(t, "valid", configuration.Valid(there), api.OK)
		again, _ := configuration.Rename(there, inverse)
		same(t, "Rename", configuration.Same(again, c), true)
		for k, x := range p {
			same(t, "member", there.Members[x].Declared, c.Members[k].Declared)
			same(t, "entries", threshold.Size(there.Members[x].Trust), threshold.Size(c.Members[k].Trust))
		}
	}
	same(t, "notation", notation.Text(trust(1, 0)), "1 of (0)")
}
