package catchup_test

import (
	"fmt"
	"math"
	"slices"
	"testing"

	"trustquorum/api"
	"trustquorum/archive"
	"trustquorum/catchup"
	"trustquorum/ledger"
)

func same[T comparable](t *testing.T, name string, got, want T) {
	t.Helper()
	if got != want {
		t.Errorf("%s: got %v, want %v", name, got, want)
	}
}

// first is a ledger with two accounts.
func first() api.Ledger {
	return api.Ledger{Number: 5, NextID: 1, Link: 77, Accounts: []api.Account{{ID: 1, Balance: 1000}, {ID: 2, Balance: 1000}}}
}

// of is an archive of n ledgers.
func of(t *testing.T, n int) api.Archive {
	t.Helper()
	a, _ := archive.New(first())
	for i := range n {
		longer, _, e := archive.Append(a, fmt.Sprint("1 ", i+1, " 1 p2,", i+1, ",-"))
		same(t, "Append", e, api.OK)
		a = longer
	}
	return a
}

// P42.1
func TestVerify(t *testing.T) {
	a := of(t, 4)
	top := archive.Top(a)
	same(t, "all", catchup.Verify(a.Items, 77, top), true)
	same(t, "a part", catchup.Verify(a.Items[1:3], a.Items[1].Link, a.Items[3].Link), true)
	same(t, "none", catchup.Verify(nil, 5, 5), true)
	same(t, "none", catchup.Verify(nil, 5, 6), false)
	same(t, "from", catchup.Verify(a.Items, 78, top), false)
	same(t, "to", catchup.Verify(a.Items, 77, top+1), false)
	same(t, "missing", catchup.Verify(slices.Delete(slices.Clone(a.Items), 1, 2), 77, top), false)
	odd := []api.Closed{{Number: -5, Value: "any"}, {Number: -4}}
	odd[1].Link = archive.Link(odd[0])
	same(t, "any items", catchup.Verify(odd, 0, archive.Link(odd[1])), true)
	odd[1].Number = -3
	same(t, "numbers", catchup.Verify(odd, 0, archive.Link(odd[1])), false)
	odd[0].Number, odd[1].Number = math.MaxInt, math.MinInt
	odd[1].Link = archive.Link(odd[0])
	same(t, "no next one", catchup.Verify(odd, 0, archive.Link(odd[1])), false)
	for i := range a.Items {
		for k, f := range []func(*api.Closed){func(c *api.Closed) { c.Number++ }, func(c *api.Closed) { c.Value += "x" }, func(c *api.Closed) { c.Link++ }, func(c *api.Closed) { c.Digest++ }} {
			b := of(t, 4)
			f(&b.Items[i])
			same(t, fmt.Sprint(i, k), catchup.Verify(b.Items, 77, top), false)
		}
	}
}

// P42.2
func TestReplay(t *testing.T) {
	a := of(t, 4)
	for n := range 5 {
		g, done, e := catchup.Replay(first(), a.Items[:n])
		want, _ := archive.State(a, 5+n)
		same(t, "Replay", fmt.Sprint(g, done, e), fmt.Sprint(want, n, 0))
	}
	middle, _ := archive.State(a, 7)
	g, done, e := catchup.Replay(middle, a.Items[2:])
	want, _ := archive.State(a, 9)
	same(t, "from the middle", fmt.Sprint(g, done, e), fmt.Sprint(want, 2, 0))
	for name, c := range map[string]struct {
		f func([]api.Closed)
		e api.Errno
	}{
		"Number":         {func(l []api.Closed) { l[2].Number++ }, api.ErrChain},
		"value":          {func(l []api.Closed) { l[2].Value = "x" }, api.ErrSyntax},
		"long value":     {func(l []api.Closed) { l[2].Value = string(make([]byte, 201)) }, api.ErrLimit},
		"another value":  {func(l []api.Closed) { l[2].Value = "0" }, api.ErrHistory},
		"Digest":         {func(l []api.Closed) { l[2].Digest++ }, api.ErrHistory},
		"Link":           {func(l []api.Closed) { l[2].Link++ }, api.ErrHistory},
		"Number, Digest": {func(l []api.Closed) { l[2].Number, l[2].Value = math.MinInt, "x" }, api.ErrChain},
	} {
		items := slices.Clone(a.Items)
		c.f(items)
		g, done, e := catchup.Replay(first(), items)
		want, _ := archive.State(a, 7)
		same(t, name, fmt.Sprint(g, done, e), fmt.Sprint(want, 2, c.e))
	}
	// The link counts for the digest alone.
	own := slices.Clone(a.Items[:1])
	set, _ := ledger.Parse(own[0].Value)
	next, _, _ := ledger.Close(first(), set)
	next.Link = 123
	own[0].Link, own[0].Digest = 123, ledger.Digest(next)
	g, done, e = catchup.Replay(first(), own)
	same(t, "any link", fmt.Sprint(g, done, e), fmt.Sprint(next, 1, 0))
	broken := first()
	broken.Fees = -1
	g, done, e = catchup.Replay(broken, a.Items)
	same(t, "the ledger", fmt.Sprint(g, done, e), fmt.Sprint(api.Ledger{}, 0, api.ErrLedger))
	last := first()
	last.Number = api.MaxSequence
	g, done, e = catchup.Replay(last, []api.Closed{{Number: api.MaxSequence + 1, Value: "0"}})
	same(t, "the last one", fmt.Sprint(g, done, e), fmt.Sprint(last, 0, api.ErrLimit))
	one := first()
	g, _, _ = catchup.Replay(one, nil)
	g.Accounts[0].Balance = 3
	same(t, "no shared memory", one.Accounts[0].Balance, 1000)
}

// P42.3 and P42.4
func TestCatch(t *testing.T) {
	a := of(t, 4)
	top := archive.Top(a)
	want, _ := archive.State(a, 9)
	middle, _ := archive.State(a, 7)
	for from, g := range map[int]api.Ledger{5: first(), 7: middle} {
		items, e := catchup.Missing(a, from)
		same(t, "Missing", fmt.Sprint(items, e), fmt.Sprint(a.Items[from-5:], 0))
		got, e := catchup.Catch(g, items, top)
		same(t, "Catch", fmt.Sprint(got, e), fmt.Sprint(want, 0))
		items[0].Value = "z"
		same(t, "no shared memory", fmt.Sprint(a), fmt.Sprint(of(t, 4)))
	}
	items, e := catchup.Missing(a, 9)
	same(t, "nothing is missing", fmt.Sprint(items, e), "[] 0")
	for n, want := range map[int]api.Errno{4: api.ErrSlot, 10: api.ErrSlot, math.MinInt: api.ErrSlot} {
		items, e := catchup.Missing(a, n)
		same(t, "Missing", fmt.Sprint(items, e), fmt.Sprint([]int{}, want))
	}
	broken := of(t, 4)
	broken.Items[1].Digest++
	items, e = catchup.Missing(broken, 99)
	same(t, "not right", fmt.Sprint(items, e), fmt.Sprint([]int{}, api.ErrHistory))
	forged := slices.Clone(a.Items)
	forged[3].Value = "0"
	wrong := first()
	wrong.Fees = -1
	for name, c := range map[string]struct {
		g     api.Ledger
		items []api.Closed
		top   uint64
		e     api.Errno
	}{
		"no items":        {first(), nil, 77, api.ErrChain},
		"another top":     {first(), a.Items, top + 1, api.ErrChain},
		"not all":         {first(), a.Items[:3], top, api.ErrChain},
		"not from there":  {first(), a.Items[1:], top, api.ErrChain},
		"forged":          {first(), forged, top, api.ErrChain},
		"forged, its top": {first(), forged, archive.Link(forged[3]), api.ErrHistory},
		"the ledger":      {wrong, a.Items, top, api.ErrLedger},
		"chain first":     {wrong, forged, top, api.ErrChain},
	} {
		got, e := catchup.Catch(c.g, c.items, c.top)
		same(t, name, fmt.Sprint(got, e), fmt.Sprint(api.Ledger{}, c.e))
	}
	for _, c := range []struct {
		l    [][]api.Closed
		want string
	}{
		{[][]api.Closed{a.Items}, "0 true"},
		{[][]api.Closed{forged, nil, a.Items, a.Items}, "2 true"},
		{[][]api.Closed{forged, nil, a.Items[1:]}, "0 false"},
		{nil, "0 false"},
	} {
		i, ok := catchup.Choose(first(), c.l, top)
		same(t, "Choose", fmt.Sprint(i, ok), c.want)
	}
}

// P42.4
func TestTrusted(t *testing.T) {
	two := api.Trust{Threshold: 2, Nodes: []int{0, 1, 2}}
	one := api.Trust{Threshold: 1, Nodes: []int{0, 1, 9}}
	for _, c := range []struct {
		l    []uint64
		x    api.Trust
		want string
	}{
		{[]uint64{7, 7, 9}, two, "7 true"},
		{[]uint64{7, 9, 7}, two, "7 true"},
		{[]uint64{7, 8, 9}, two, "0 false"},
		{[]uint64{9, 7, 8}, one, "7 true"},
		{[]uint64{9, 0, 8}, one, "9 true"},
		{[]uint64{0, 0, 0}, two, "0 false"},
		{[]uint64{0, 0, 5}, two, "0 false"},
		{nil, two, "0 false"},
		{[]uint64{0, 0, 0, 0, 0, 0, 0, 0, 0, 4}, one, "4 true"},
		{[]uint64{0, 0, 0, 0, 0, 0, 0, 0, 0, 0, 4}, one, "0 false"},
		{[]uint64{0, 0, 0, 0, 0, 0, 0, 0, 0, 0, 4}, api.Trust{}, "0 false"},
		{[]uint64{0, 0, 6, 5}, api.Trust{}, "5 true"},
		{[]uint64{math.MaxUint64, math.MaxUint64}, two, "18446744073709551615 true"},
		{[]uint64{7, 7, 7}, api.Trust{Threshold: 4, Nodes: []int{0, 1, 2}}, "0 false"},
		{append(slices.Repeat([]uint64{0}, 64), 7), one, "0 false"},
	} {
		link, ok := catchup.Trusted(c.l, c.x)
		same(t, fmt.Sprint(c.l), fmt.Sprint(link, ok), c.want)
	}
}

// The consequences of the chapter: whoever catches up has the State, and no list that was changed is chosen.
func TestConsequences(t *testing.T) {
	a := of(t, 6)
	want, _ := archive.State(a, 11)
	for from := 5; from < 11; from++ {
		g, _ := archive.State(a, from)
		items, _ := catchup.Missing(a, from)
		got, e := catchup.Catch(g, items, archive.Top(a))
		same(t, "State", fmt.Sprint(got, e), fmt.Sprint(want, 0))
		for i := range items {
			for _, f := range []func(*api.Closed){func(c *api.Closed) { c.Number-- }, func(c *api.Closed) { c.Value = "0" }, func(c *api.Closed) { c.Link++ }, func(c *api.Closed) { c.Digest++ }} {
				changed := slices.Clone(items)
				f(&changed[i])
				_, ok := catchup.Choose(g, [][]api.Closed{changed}, archive.Top(a))
				same(t, "changed", ok && i > 0, false)
				same(t, "changed", ok, false)
			}
		}
	}
}
