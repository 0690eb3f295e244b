package archive_test

import (
	"fmt"
	"math"
	"slices"
	"testing"

	"trustquorum/api"
	"trustquorum/archive"
	"trustquorum/declaration"
	"trustquorum/ledger"
)

func same[T comparable](t *testing.T, name string, got, want T) {
	t.Helper()
	if got != want {
		t.Errorf("%s: got %v, want %v", name, got, want)
	}
}

// first is a ledger with two accounts.
func first() api.Ledger {
	return api.Ledger{Number: 5, NextID: 1, Link: 77, Accounts: []api.Account{{ID: 1, Balance: 1000}, {ID: 2, Balance: 1000}}}
}

// values are sets of transactions that can be closed one after the other.
func values(n int) []api.Value {
	var l []api.Value
	sequence := 0
	for i := range n {
		v := "0"
		if i%3 > 0 {
			sequence++
			v = fmt.Sprint("1 ", sequence, " 1 p2,", i, ",-")
		}
		l = append(l, v)
	}
	return l
}

// of is an archive of n ledgers.
func of(t *testing.T, n int) api.Archive {
	t.Helper()
	a, e := archive.New(first())
	same(t, "New", e, api.OK)
	for i, v := range values(n) {
		longer, results, e := archive.Append(a, v)
		same(t, v, e, api.OK)
		for _, r := range results {
			same(t, v, r, api.Result{})
		}
		same(t, v, len(longer.Items), i+1)
		a = longer
	}
	return a
}

// P41.1
func TestNew(t *testing.T) {
	g := first()
	a, e := archive.New(g)
	same(t, "New", fmt.Sprint(a, e), fmt.Sprint(api.Archive{First: first()}, 0))
	a.First.Accounts[0].Balance = 3
	same(t, "no shared memory", g.Accounts[0].Balance, 1000)
	for _, f := range []func(*api.Ledger){func(g *api.Ledger) { g.Fees = -1 }, func(g *api.Ledger) { g.Accounts = make([]api.Account, 21) }} {
		g := first()
		f(&g)
		want := api.ErrLedger
		if len(g.Accounts) > 2 {
			want = api.ErrLimit
		}
		a, e := archive.New(g)
		same(t, "New", fmt.Sprint(a, e), fmt.Sprint(api.Archive{}, want))
		i, e := archive.Check(api.Archive{First: g})
		same(t, "Check", fmt.Sprint(i, e), fmt.Sprint(-1, api.ErrLedger))
	}
	c := api.Closed{Number: -7, Value: "a b", Link: math.MaxUint64, Digest: 12345}
	same(t, "Link", archive.Link(c), declaration.Hash("-7 18446744073709551615 12345 a b"))
	same(t, "Top", archive.Top(api.Archive{First: first()}), 77)
	same(t, "Top", archive.Top(api.Archive{First: first(), Items: []api.Closed{{}, c}}), archive.Link(c))
	same(t, "Last", archive.Last(api.Archive{First: first()}), 5)
	same(t, "Last", archive.Last(api.Archive{First: first(), Items: []api.Closed{{}, c}}), 7)
	same(t, "wraps", archive.Last(api.Archive{First: api.Ledger{Number: math.MaxInt}, Items: []api.Closed{c}}), math.MinInt)
}

// P41.2
func TestAppend(t *testing.T) {
	a := of(t, 2)
	before := fmt.Sprint(a)
	longer, results, e := archive.Append(a, "1 2 1 x7|2 1 5 p1,10,-")
	same(t, "Append", fmt.Sprint(results, e), fmt.Sprint([]api.Result{{Err: api.ErrOffer}, {}}, 0))
	same(t, "the argument stays", fmt.Sprint(a), before)
	state, _ := archive.State(a, 7)
	set, _ := ledger.Parse("1 2 1 x7|2 1 5 p1,10,-")
	closed, _, _ := ledger.Close(state, set)
	closed.Link = archive.Top(a)
	want := api.Closed{Number: 8, Value: "1 2 1 x7|2 1 5 p1,10,-", Link: archive.Top(a), Digest: ledger.Digest(closed)}
	same(t, "the item", longer.Items[2], want)
	same(t, "the others", fmt.Sprint(longer.Items[:2]), fmt.Sprint(a.Items))
	got, _ := archive.State(longer, 8)
	same(t, "the ledger", fmt.Sprint(got), fmt.Sprint(closed))
	full := of(t, 40)
	broken := of(t, 3)
	broken.Items[1].Digest++
	last := api.Archive{First: first()}
	last.First.Number = api.MaxSequence
	for name, c := range map[string]struct {
		a api.Archive
		v api.Value
		e api.Errno
	}{
		"no set":         {a, "x", api.ErrSyntax},
		"too long":       {a, string(make([]byte, 201)), api.ErrLimit},
		"full":           {full, "x", api.ErrLimit},
		"not right":      {broken, "x", api.ErrHistory},
		"no ledger":      {api.Archive{}, "x", api.ErrLedger},
		"the last one":   {last, "0", api.ErrLimit},
		"no set, at all": {last, "", api.ErrSyntax},
	} {
		longer, results, e := archive.Append(c.a, c.v)
		same(t, name, fmt.Sprint(longer, results, e), fmt.Sprint(api.Archive{}, []int{}, c.e))
	}
}

// P41.3
func TestState(t *testing.T) {
	a := of(t, 6)
	g := first()
	for n := 5; n <= 11; n++ {
		got, e := archive.State(a, n)
		same(t, fmt.Sprint(n), fmt.Sprint(got, e), fmt.Sprint(g, 0))
		cut, e := archive.Cut(a, n)
		same(t, fmt.Sprint(n), fmt.Sprint(cut, e), fmt.Sprint(api.Archive{First: first(), Items: a.Items[:n-5]}, 0))
		if n < 11 {
			set, _ := ledger.Parse(a.Items[n-5].Value)
			g, _, _ = ledger.Close(g, set)
			g.Link = a.Items[n-5].Link
		}
		got.Accounts[0].Balance = 7
		same(t, "no shared memory", a.First.Accounts[0].Balance, 1000)
	}
	cut, _ := archive.Cut(a, 7)
	cut.Items[0].Value, cut.First.Accounts[0].ID = "z", 0
	same(t, "no shared memory", fmt.Sprint(a), fmt.Sprint(of(t, 6)))
	broken := of(t, 3)
	broken.Items[1].Value = "0"
	for _, c := range []struct {
		a api.Archive
		n int
		e api.Errno
	}{{a, 4, api.ErrSlot}, {a, 12, api.ErrSlot}, {a, math.MinInt, api.ErrSlot}, {a, math.MaxInt, api.ErrSlot}, {broken, 99, api.ErrHistory}, {api.Archive{}, 0, api.ErrLedger}, {broken, 5, api.ErrHistory}} {
		got, e := archive.State(c.a, c.n)
		same(t, fmt.Sprint(c.n), fmt.Sprint(got, e), fmt.Sprint(api.Ledger{}, c.e))
		cut, e := archive.Cut(c.a, c.n)
		same(t, fmt.Sprint(c.n), fmt.Sprint(cut, e), fmt.Sprint(api.Archive{}, c.e))
	}
}

// P41.4
func TestCheck(t *testing.T) {
	for n := range 5 {
		i, e := archive.Check(of(t, n))
		same(t, "right", fmt.Sprint(i, e), "0 0")
	}
	i, e := archive.Check(of(t, 40))
	same(t, "forty", fmt.Sprint(i, e), "0 0")
	for name, c := range map[string]struct {
		f func(*api.Archive)
		i int
		e api.Errno
	}{
		"another value":  {func(a *api.Archive) { a.Items[1].Value = "1 1 1 p2,2,-" }, 1, api.ErrHistory},
		"no value":       {func(a *api.Archive) { a.Items[1].Value = "" }, 1, api.ErrSyntax},
		"long value":     {func(a *api.Archive) { a.Items[1].Value = string(make([]byte, 201)) }, 1, api.ErrLimit},
		"Number":         {func(a *api.Archive) { a.Items[1].Number++ }, 1, api.ErrChain},
		"first Number":   {func(a *api.Archive) { a.Items[0].Number = 5 }, 0, api.ErrChain},
		"Link":           {func(a *api.Archive) { a.Items[2].Link++ }, 2, api.ErrChain},
		"first Link":     {func(a *api.Archive) { a.Items[0].Link++ }, 0, api.ErrChain},
		"Digest":         {func(a *api.Archive) { a.Items[2].Digest++ }, 2, api.ErrHistory},
		"Link and value": {func(a *api.Archive) { a.Items[2].Link++; a.Items[2].Value = "" }, 2, api.ErrChain},
		"the first":      {func(a *api.Archive) { a.First.Accounts[1].Balance++ }, 0, api.ErrHistory},
		"first link":     {func(a *api.Archive) { a.First.Link++ }, 0, api.ErrChain},
		"no ledger":      {func(a *api.Archive) { a.First.Fees = -1 }, -1, api.ErrLedger},
		"missing":        {func(a *api.Archive) { a.Items = slices.Delete(a.Items, 1, 2) }, 1, api.ErrChain},
		"too many":       {func(a *api.Archive) { a.Items = make([]api.Closed, 41) }, -1, api.ErrLimit},
		"both":           {func(a *api.Archive) { a.Items = make([]api.Closed, 41); a.First.Fees = -1 }, -1, api.ErrLedger},
		"the last one": {func(a *api.Archive) {
			a.First.Number = api.MaxSequence
			a.Items = []api.Closed{{Number: api.MaxSequence + 1, Value: "0", Link: 77}}
		}, 0, api.ErrLimit},
	} {
		a := of(t, 3)
		c.f(&a)
		i, e := archive.Check(a)
		same(t, name, fmt.Sprint(i, e), fmt.Sprint(c.i, c.e))
	}
}

// P41.5
func TestSame(t *testing.T) {
	a, b := of(t, 5), of(t, 5)
	same(t, "equal", archive.Same(a, b), 5)
	same(t, "shorter", archive.Same(a, of(t, 3)), 3)
	same(t, "shorter", archive.Same(of(t, 0), a), 0)
	for _, f := range []func(*api.Closed){func(c *api.Closed) { c.Number++ }, func(c *api.Closed) { c.Value = "z" }, func(c *api.Closed) { c.Link++ }, func(c *api.Closed) { c.Digest++ }} {
		b = of(t, 5)
		f(&b.Items[2])
		same(t, "changed", archive.Same(a, b), 2)
	}
	b = of(t, 5)
	b.First.Fees++
	same(t, "another ledger", archive.Same(a, b), 0)
	same(t, "not right", archive.Same(api.Archive{Items: make([]api.Closed, 3)}, api.Archive{Items: make([]api.Closed, 2)}), 2)
}

// The consequences of the chapter: each change of an item is found.
func TestConsequences(t *testing.T) {
	a := of(t, 8)
	for i := range a.Items {
		for k, f := range []func(*api.Closed){func(c *api.Closed) { c.Number-- }, func(c *api.Closed) { c.Value += " " }, func(c *api.Closed) { c.Link ^= 1 << 63 }, func(c *api.Closed) { c.Digest ^= 1 }} {
			b := of(t, 8)
			f(&b.Items[i])
			at, e := archive.Check(b)
			same(t, fmt.Sprint(i, k), at == i && e != api.OK, true)
			if i == 7 {
				same(t, "another top", archive.Top(a) == archive.Top(b), false)
			}
		}
	}
}
