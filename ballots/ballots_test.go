package ballots_test

import (
	"fmt"
	"math"
	"strings"
	"testing"

	"trustquorum/api"
	"trustquorum/ballots"
)

func same[T comparable](t *testing.T, name string, got, want T) {
	t.Helper()
	if got != want {
		t.Errorf("%s: got %v, want %v", name, got, want)
	}
}

func of(n int, v api.Value) api.Ballot { return api.Ballot{Counter: n, Value: v} }

var long = strings.Repeat("x", api.MaxBytes)

// P23.1
func TestValid(t *testing.T) {
	for _, c := range []struct {
		b           api.Ballot
		zero, valid bool
	}{
		{of(0, ""), true, false},
		{of(1, "a"), false, true},
		{of(1000, long), false, true},
		{of(api.Infinity, "a"), false, true},
		{of(0, "a"), false, false},
		{of(1, ""), false, false},
		{of(-1, "a"), false, false},
		{of(1001, "a"), false, false},
		{of(api.Infinity-1, "a"), false, false},
		{of(api.Infinity+1, "a"), false, false},
		{of(1, long+"x"), false, false},
		{of(api.Infinity, ""), false, false},
	} {
		same(t, fmt.Sprint(c.b), ballots.Zero(c.b), c.zero)
		same(t, fmt.Sprint(c.b), ballots.Valid(c.b), c.valid)
	}
}

// P23.1
func TestLess(t *testing.T) {
	order := []api.Ballot{of(math.MinInt, "z"), of(-1, ""), of(0, ""), of(0, "a"), of(1, ""), of(1, "\x00"), of(1, "a"), of(1, "b"), of(1, "\xff"), of(1, "aa"), of(1, long+"x"), of(2, "a"), of(api.Infinity, "a"), of(math.MaxInt, "")}
	for i, a := range order {
		for k, b := range order {
			same(t, fmt.Sprint(a, b), ballots.Less(a, b), i < k)
			if a.Counter == b.Counter {
				same(t, fmt.Sprint(a, b), ballots.LessValue(a.Value, b.Value), i < k)
			}
			same(t, fmt.Sprint(a, b), ballots.Compatible(a, b), a.Value == b.Value)
		}
	}
}

// P23.2
func TestRelations(t *testing.T) {
	zero := of(0, "")
	for _, c := range []struct {
		p, b           api.Ballot
		covers, aborts bool
	}{
		{of(3, "b"), of(3, "b"), true, false},
		{of(3, "b"), of(2, "b"), true, false},
		{of(3, "b"), of(4, "b"), false, false},
		{of(3, "b"), of(3, "a"), false, true},
		{of(3, "b"), of(2, "c"), false, true},
		{of(3, "b"), of(3, "c"), false, false},
		{of(3, "b"), of(3, "aa"), false, false},
		{of(3, "b"), of(4, "a"), false, false},
		{of(3, "b"), zero, false, true},
		{zero, zero, false, false},
		{zero, of(-1, ""), false, false},
		{zero, of(-1, "a"), false, false},
		{of(0, "b"), of(0, "a"), false, true},
		{of(0, "b"), of(-5, "b"), true, false},
		{of(1, ""), zero, true, false},
	} {
		same(t, fmt.Sprint(c.p, c.b), ballots.Covers(c.p, c.b), c.covers)
		same(t, fmt.Sprint(c.p, c.b), ballots.Aborts(c.p, c.b), c.aborts)
	}
	for _, c := range []struct {
		p, q, b api.Ballot
		want    bool
	}{
		{of(5, "a"), of(3, "b"), of(5, "a"), true},
		{of(5, "a"), of(3, "b"), of(4, "a"), true},
		{of(5, "a"), of(3, "b"), of(6, "a"), false},
		{of(5, "a"), of(3, "b"), of(3, "b"), true},
		{of(5, "a"), of(3, "b"), of(4, "b"), false},
		{of(5, "a"), of(3, "b"), of(2, "z"), true},
		{of(5, "a"), of(3, "b"), of(3, "a"), true},
		{of(5, "a"), of(3, "b"), of(3, "c"), false},
		{of(5, "a"), zero, of(5, "a"), true},
		{of(5, "a"), zero, of(1, "b"), false},
		{of(5, "a"), zero, of(-1, "b"), false},
		{zero, of(3, "b"), of(2, "a"), true},
		{zero, of(3, "b"), of(3, "b"), true},
		{zero, zero, of(1, "a"), false},
		{zero, zero, zero, false},
	} {
		same(t, fmt.Sprint(c.p, c.q, c.b), ballots.Prepares(c.p, c.q, c.b), c.want)
	}
}

// P23.3
func TestLowest(t *testing.T) {
	zero := of(0, "")
	for _, c := range []struct {
		value api.Value
		from  int
		p, q  api.Ballot
		want  int
	}{
		{"a", 2, of(4, "b"), zero, 5},
		{"a", 2, zero, of(4, "b"), 5},
		{"c", 2, of(4, "b"), zero, 4},
		{"aa", 2, of(4, "b"), zero, 4},
		{"b", 2, of(4, "b"), zero, 2},
		{"b", 2, of(4, "b"), of(3, "c"), 4},
		{"b", 2, of(4, "b"), of(3, "a"), 3},
		{"a", 7, of(4, "b"), of(3, "c"), 7},
		{"a", 4, of(4, "b"), zero, 5},
		{"a", 2, of(4, "b"), of(4, "c"), 5},
		{"a", 0, zero, zero, 1},
		{"a", math.MinInt, zero, zero, 1},
		{"a", math.MaxInt, of(4, "b"), zero, math.MaxInt},
		{"a", 1, of(api.Infinity, "b"), zero, api.Infinity + 1},
		{"c", 1, of(api.Infinity, "b"), zero, api.Infinity},
		{"a", 1, of(1001, "b"), of(5, ""), 1},
		{"a", 1, of(math.MaxInt, "b"), of(0, "b"), 1},
		{"", 1, of(3, "b"), zero, 4},
	} {
		same(t, fmt.Sprint(c), ballots.Lowest(c.value, c.from, c.p, c.q), c.want)
	}
}

// P23.3
func TestGreatest(t *testing.T) {
	for _, c := range []struct {
		l    []api.Ballot
		want api.Ballot
	}{
		{nil, of(0, "")},
		{[]api.Ballot{of(-3, "a")}, of(-3, "a")},
		{[]api.Ballot{of(1, "b"), of(2, "a"), of(1, "c")}, of(2, "a")},
		{[]api.Ballot{of(2, "a"), of(2, "aa"), of(2, "b")}, of(2, "aa")},
		{[]api.Ballot{of(0, ""), of(-1, "z")}, of(0, "")},
	} {
		same(t, fmt.Sprint(c.l), ballots.Greatest(c.l), c.want)
	}
}

// The consequences of the chapter, and the definition of Lowest.
func TestConsequences(t *testing.T) {
	var all []api.Ballot
	for n := range 5 {
		for _, v := range []api.Value{"", "a", "b", "aa"} {
			all = append(all, of(n, v))
		}
	}
	for _, p := range all {
		for _, b := range all {
			same(t, "both", ballots.Covers(p, b) && ballots.Aborts(p, b), false)
			for _, a := range all {
				if ballots.Aborts(p, b) && ballots.Covers(b, a) {
					same(t, fmt.Sprint(p, b, a), ballots.Aborts(p, a), true)
				}
			}
			for from := range 6 {
				n := ballots.Lowest("b", from, p, b)
				for k := max(from, 1); k <= n; k++ {
					free := true
					for _, x := range []api.Ballot{p, b} {
						free = free && !(ballots.Valid(x) && ballots.Aborts(x, of(k, "b")))
					}
					same(t, fmt.Sprint(p, b, k), free, k == n)
				}
			}
		}
	}
}
