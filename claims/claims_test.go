package claims_test

import (
	"fmt"
	"math"
	"math/rand"
	"strings"
	"testing"

	"trustquorum/api"
	"trustquorum/claims"
)

func same[T comparable](t *testing.T, name string, got, want T) {
	t.Helper()
	if got != want {
		t.Errorf("%s: got %v, want %v", name, got, want)
	}
}

// of makes a list of claims of topics and values.
func of(l ...int) []api.Claim {
	var c []api.Claim
	for i := 0; i < len(l); i += 2 {
		c = append(c, api.Claim{Topic: l[i], Value: l[i+1]})
	}
	return c
}

func list(t *testing.T, name string, got, want []api.Claim) {
	t.Helper()
	same(t, name, fmt.Sprint(got), fmt.Sprint(want))
}

// P17.1
func TestClaims(t *testing.T) {
	order := of(math.MinInt, 3, -1, 0, -1, 1, 0, -1, 0, 0, 0, 15, 0, 16, 7, 0, 7, 15, 8, 0, math.MaxInt, math.MinInt)
	for i, a := range order {
		valid := a.Topic >= 0 && a.Topic <= 7 && a.Value >= 0 && a.Value <= 15
		same(t, fmt.Sprint(a), claims.Valid(a), valid)
		for k, b := range order {
			want := 0
			if i < k {
				want = -1
			} else if i > k {
				want = 1
			}
			same(t, fmt.Sprint(a, b), claims.Compare(a, b), want)
			same(t, fmt.Sprint(a, b), claims.Contradict(a, b), a.Topic == b.Topic && i != k)
		}
	}
	for _, c := range []struct {
		l                 []api.Claim
		plain, consistent bool
	}{
		{nil, true, true},
		{of(0, 1), true, true},
		{of(0, 1, 0, 2, 3, 15), true, false},
		{of(0, 1, 1, 1), true, true},
		{of(0, 1, 0, 1), false, true},
		{of(1, 0, 0, 0), false, true},
		{of(0, 2, 0, 1), false, false},
		{of(0, 16), false, true},
		{of(-1, 0), false, true},
		{of(8, 0), false, true},
		{of(8, 0, 7, 0, 8, 1), false, false},
		{of(3, -1, 3, -2), false, false},
		{of(0, 0, 1, 5, 2, 7, 0, 0), false, true},
		{of(0, 0, 1, 0, 0, 1), false, false},
	} {
		same(t, fmt.Sprint("Plain", c.l), claims.Plain(c.l), c.plain)
		same(t, fmt.Sprint("Consistent", c.l), claims.Consistent(c.l), c.consistent)
		for _, x := range append(order, of(0, 1, 3, 15, 0, 2)...) {
			want := false
			for _, y := range c.l {
				want = want || x == y
			}
			same(t, fmt.Sprint("Has", c.l, x), claims.Has(c.l, x), want)
		}
	}
}

// P17.2
func TestLists(t *testing.T) {
	l := of(3, 1, 0, 2, 3, 1, 0, 1, -1, 0, 8, 0, 0, 16, 0, -1)
	before := fmt.Sprint(l)
	list(t, "Sorted", claims.Sorted(l), of(0, 1, 0, 2, 3, 1))
	list(t, "Sorted", claims.Sorted(nil), nil)
	list(t, "Put", claims.Put(l, api.Claim{Topic: 1, Value: 1}), of(0, 1, 0, 2, 1, 1, 3, 1))
	list(t, "Put", claims.Put(l, api.Claim{Topic: 0, Value: 1}), of(0, 1, 0, 2, 3, 1))
	list(t, "Put", claims.Put(l, api.Claim{Topic: 9, Value: 1}), of(0, 1, 0, 2, 3, 1))
	list(t, "Union", claims.Union(l, of(7, 15, 0, 2, 0, 0, 99, 1)), of(0, 0, 0, 1, 0, 2, 3, 1, 7, 15))
	same(t, "Of", fmt.Sprint(claims.Of(l, 0)), "[1 2]")
	same(t, "Of", fmt.Sprint(claims.Of(l, 3)), "[1]")
	for _, topic := range []int{1, -1, 8, math.MaxInt} {
		same(t, "Of", fmt.Sprint(claims.Of(l, topic)), "[]")
	}
	same(t, "the argument stays", fmt.Sprint(l), before)
	long := make([]api.Claim, 3, 10)
	claims.Put(long, api.Claim{Topic: 5, Value: 5})
	same(t, "the memory behind it stays", long[:4][3], api.Claim{})
	got := claims.Sorted(long)
	got[0].Value = 3
	same(t, "no shared memory", long[0].Value, 0)
}

// P17.3
func TestText(t *testing.T) {
	for text, l := range map[string][]api.Claim{"": nil, "0=1 0=2 3=15": of(0, 1, 0, 2, 3, 15), "7=0": of(7, 0)} {
		same(t, text, claims.Text(l), text)
		got, e := claims.Parse(text)
		list(t, text, got, l)
		same(t, text, e, api.OK)
	}
	same(t, "sorted", claims.Text(of(3, 1, 0, 2, 3, 1, 8, 8)), "0=2 3=1")
	for _, text := range []string{" ", "0=1 ", " 0=1", "0=1  0=2", "0=1\n", "0=1\t0=2", "0=1,0=2", "0", "0=", "=0", "=", "0=16", "8=0", "-1=0", "0=-1", "00=1", "0=01", "+0=1", "0=+1", "0 = 1", "0=1 0=1", "0=2 0=1", "0=1=2", "a=b", "\xff", strings.Repeat(" ", api.MaxText)} {
		l, e := claims.Parse(text)
		same(t, text, e, api.ErrSyntax)
		list(t, text, l, nil)
	}
	l, e := claims.Parse(strings.Repeat(" ", api.MaxText+1))
	same(t, "too long", e, api.ErrLimit)
	list(t, "too long", l, nil)
}

// The consequences of the chapter.
func TestConsequences(t *testing.T) {
	r := rand.New(rand.NewSource(17))
	random := func() []api.Claim {
		var l []api.Claim
		for range r.Intn(40) {
			l = append(l, api.Claim{Topic: r.Intn(9), Value: r.Intn(17)})
		}
		return l
	}
	for range 200 {
		a, b, c := random(), random(), random()
		ab := claims.Union(a, b)
		same(t, "plain", claims.Plain(ab), true)
		back, e := claims.Parse(claims.Text(a))
		same(t, "Parse", e, api.OK)
		list(t, "Parse", back, claims.Sorted(a))
		list(t, "commutative", claims.Union(b, a), ab)
		list(t, "associative", claims.Union(ab, c), claims.Union(a, claims.Union(b, c)))
		list(t, "idempotent", claims.Union(ab, ab), ab)
	}
}
