package registry_test

import (
	"fmt"
	"math/rand"
	"slices"
	"testing"

	"trustquorum/api"
	"trustquorum/configuration"
	"trustquorum/declaration"
	"trustquorum/notation"
	"trustquorum/registry"
	"trustquorum/threshold"
)

func same[T comparable](t *testing.T, name string, got, want T) {
	t.Helper()
	if got != want {
		t.Errorf("%s: got %v, want %v", name, got, want)
	}
}

func trust(k int, nodes ...int) api.Trust { return api.Trust{Threshold: k, Nodes: nodes} }

var keys = []uint64{100, 101, 102, 103, 104, 105, 106, 107, 108, 109}

// sign makes a declaration that is right.
func sign(node, seq int, x api.Trust) api.Declaration {
	d, e := declaration.Sign(keys[node], node, seq, x)
	if e != api.OK {
		panic(e)
	}
	return d
}

// tagged is a declaration with another tag.
func tagged(d api.Declaration, tag uint64) api.Declaration {
	d.Tag = tag
	return d
}

func of(l ...[]api.Declaration) api.Registry { return api.Registry{Entries: l} }

func list(l ...api.Declaration) []api.Declaration { return l }

var (
	a1 = sign(0, 1, trust(1, 0))
	b1 = sign(0, 1, trust(1, 1))
	c1 = sign(0, 1, trust(1, 2))
	a2 = sign(0, 2, trust(1, 0))
	x1 = sign(1, 1, trust(1, 0))
)

// P8.1
func TestEmpty(t *testing.T) {
	for n, want := range map[int]int{-1: 0, 0: 0, 1: 1, 10: 10, 11: 0, 1 << 60: 0} {
		r := registry.Empty(n)
		same(t, "Empty", len(r.Entries), want)
		same(t, "Empty", registry.Valid(r), api.OK)
		for _, l := range r.Entries {
			same(t, "Empty", len(l), 0)
		}
	}
}

// P8.1
func TestValid(t *testing.T) {
	for _, c := range []struct {
		r api.Registry
		e api.Errno
	}{
		{of(), api.OK},
		{of(nil, nil), api.OK},
		{of(list(a1, b1, a2), list(x1)), api.OK},
		{of(list(tagged(a1, 7))), api.OK},
		{api.Registry{Entries: make([][]api.Declaration, 11)}, api.ErrLimit},
		{of(list(api.Declaration{Node: 12})), api.ErrNode},
		{of(list(api.Declaration{})), api.ErrInvalid},
		{of(list(api.Declaration{Seq: 1})), api.ErrThreshold},
		{of(list(x1)), api.ErrNode},
		{of(nil, list(a1)), api.ErrNode},
		{of(list(b1, a1)), api.ErrOrder},
		{of(list(a1, a1)), api.ErrOrder},
		{of(list(a1, tagged(a1, 7))), api.ErrOrder},
		{of(list(a2, a1)), api.ErrOrder},
		{of(list(a1, b1, c1)), api.ErrLimit},
		{of(list(a1, a1, x1)), api.ErrOrder},
		{of(list(a1, b1, c1), list(a1)), api.ErrLimit},
		{of(list(a1), list(a1), list(api.Declaration{})), api.ErrNode},
	} {
		same(t, fmt.Sprint(c.r), registry.Valid(c.r), c.e)
	}
}

// P8.1
func TestSame(t *testing.T) {
	l := []api.Registry{of(), of(nil), of(nil, nil), of(list(a1)), of(list(tagged(a1, 7))), of(list(b1)), of(list(a2)), of(list(a1, b1)), of(list(x1)), of(nil, list(a1))}
	for i, a := range l {
		for k, b := range l {
			same(t, fmt.Sprint(a, b), registry.Same(a, b), i == k)
		}
	}
}

// P8.2
func TestAdd(t *testing.T) {
	for _, c := range []struct {
		r    api.Registry
		d    api.Declaration
		want api.Registry
		e    api.Errno
	}{
		{of(nil), a1, of(list(a1)), api.OK},
		{of(nil, nil), x1, of(nil, list(x1)), api.OK},
		{of(list(a2)), a1, of(list(a1, a2)), api.OK},
		{of(list(a1)), b1, of(list(a1, b1)), api.OK},
		{of(list(b1)), a1, of(list(a1, b1)), api.OK},
		{of(list(a1, b1)), c1, of(list(a1, b1)), api.OK},
		{of(list(b1, c1)), a1, of(list(a1, b1)), api.OK},
		{of(list(a1, c1, a2)), b1, of(list(a1, b1, a2)), api.OK},
		{of(list(a1)), a1, of(list(a1)), api.OK},
		{of(list(tagged(a1, 7))), a1, of(list(tagged(a1, 7))), api.OK},
		{of(), a1, of(), api.ErrNode},
		{of(nil), x1, of(), api.ErrNode},
		{of(nil), tagged(x1, 0), of(), api.ErrTag},
		{of(list(a1, a1)), tagged(x1, 0), of(), api.ErrOrder},
		{of(nil), api.Declaration{}, of(), api.ErrInvalid},
	} {
		before := fmt.Sprint(c.r)
		got, e := registry.Add(keys, c.r, c.d)
		same(t, fmt.Sprint(c.r, c.d), e, c.e)
		same(t, fmt.Sprint(c.r, c.d, got), registry.Same(got, c.want), true)
		same(t, "the argument stays", fmt.Sprint(c.r), before)
	}
	_, e := registry.Add(nil, of(nil), a1)
	same(t, "no key", e, api.ErrMissing)
	d := sign(0, 1, trust(1, 0))
	r, _ := registry.Add(keys, of(nil), d)
	d.Trust.Nodes[0] = 5
	same(t, "no shared memory", r.Entries[0][0].Trust.Nodes[0], 0)
}

// P8.3
func TestMerge(t *testing.T) {
	got, e := registry.Merge(of(list(a1, c1), nil), of(list(b1, a2), list(x1)))
	same(t, "Merge", e, api.OK)
	same(t, "Merge", registry.Same(got, of(list(a1, b1, a2), list(x1))), true)
	got, _ = registry.Merge(of(list(tagged(a1, 7))), of(list(a1)))
	same(t, "those of a", registry.Same(got, of(list(tagged(a1, 7)))), true)
	for _, c := range []struct {
		a, b api.Registry
		e    api.Errno
	}{
		{of(nil), of(nil, nil), api.ErrInvalid},
		{of(), of(nil), api.ErrInvalid},
		{of(list(x1)), of(list(a1, a1), nil), api.ErrNode},
		{of(list(a1, a1), nil), of(list(x1)), api.ErrOrder},
		{of(nil), of(list(a1, a1), nil), api.ErrOrder},
	} {
		got, e := registry.Merge(c.a, c.b)
		same(t, "Merge", e, c.e)
		same(t, "Merge", len(got.Entries), 0)
		same(t, "Difference", len(registry.Difference(c.a, c.b)), 0)
	}
}

// P8.3
func TestDifference(t *testing.T) {
	for _, c := range []struct {
		a, b api.Registry
		want []api.Declaration
	}{
		{of(list(a1, a2), list(x1)), of(list(a1), nil), list(a2, x1)},
		{of(list(a1)), of(list(tagged(a1, 7))), nil},
		{of(list(b1, c1)), of(list(a1)), list(b1)},
		{of(list(c1)), of(list(a1, b1)), nil},
		{of(list(a1, b1)), of(list(c1)), list(a1, b1)},
		{of(list(tagged(a2, 9))), of(nil), list(tagged(a2, 9))},
		{of(nil), of(list(a1)), nil},
	} {
		same(t, "Difference", fmt.Sprint(registry.Difference(c.a, c.b)), fmt.Sprint(c.want))
	}
}

// P8.4
func TestEvidence(t *testing.T) {
	r := of(list(a1, a2, sign(0, 2, trust(1, 1)), sign(0, 3, trust(1, 0)), sign(0, 3, trust(1, 1))), list(x1), nil)
	x, ok := registry.Evidence(r, 0)
	same(t, "Evidence", ok, true)
	same(t, "Evidence", fmt.Sprint(x), fmt.Sprint(api.Evidence{A: a2, B: sign(0, 2, trust(1, 1))}))
	same(t, "Proves", declaration.Proves(keys, x), api.OK)
	same(t, "Exposed", registry.Exposed(r), 1)
	same(t, "Exposed", registry.Exposed(of(nil, list(x1, sign(1, 1, trust(1, 1))))), 2)
	for _, node := range []int{1, 2, 3, -1, 1 << 60} {
		x, ok := registry.Evidence(r, node)
		same(t, "Evidence", ok, false)
		same(t, "Evidence", fmt.Sprint(x), fmt.Sprint(api.Evidence{}))
	}
	_, ok = registry.Evidence(of(list(a1, b1), list(a1)), 0)
	same(t, "not valid", ok, false)
	same(t, "not valid", registry.Exposed(of(list(a1, b1), list(a1))), 0)
}

// P8.4
func TestView(t *testing.T) {
	r := of(list(a1, sign(0, 2, trust(1, 1, 2))), list(x1, sign(1, 1, trust(1, 1))), nil, list(sign(3, 5, trust(1, 4))), list(sign(4, 5, trust(1, 5)), sign(4, 6, trust(1, 0))))
	same(t, "View", configuration.Text(registry.View(r)), "0: 1 of (1, 2)\n1: -\n2: -\n3: 1 of (4)\n4: 1 of (0)\n")
	r = of(list(sign(0, 1, trust(1, 2))), list(sign(1, 1, trust(1, 0)), sign(1, 2, trust(1, 9))))
	same(t, "View", configuration.Text(registry.View(r)), "0: -\n1: -\n")
	same(t, "not valid", len(registry.View(of(list(a1), list(a1))).Members), 0)
	same(t, "empty", len(registry.View(of()).Members), 0)
}

// P8.4
func TestTrusts(t *testing.T) {
	r := of(list(a1, b1, a2), nil, list(api.Declaration{}))
	want := [][]api.Trust{{trust(1, 0), trust(1, 1), trust(1, 0)}, {}, {{}}}
	same(t, "Trusts", fmt.Sprint(registry.Trusts(r)), fmt.Sprint(want))
	same(t, "many", len(registry.Trusts(api.Registry{Entries: make([][]api.Declaration, 70)})), 70)
	registry.Trusts(r)[0][0].Nodes[0] = 7
	same(t, "no shared memory", a1.Trust.Nodes[0], 0)
}

// deep is a trust with so many levels.
func deep(levels int) api.Trust {
	t := trust(1, 0)
	for range levels - 1 {
		t = api.Trust{Threshold: 1, Inner: []api.Trust{t}}
	}
	return t
}

// P8.5
func TestLowAndHigh(t *testing.T) {
	p, q, s := trust(1, 0), trust(2, 0, 1), trust(1, 1)
	l := [][]api.Trust{{q, s, p, q, s}, {q, q}, nil}
	low, e := registry.Low(l)
	same(t, "Low", e, api.OK)
	same(t, "Low", configuration.Text(low), "0: 1 of (1 of (0), 1 of (1), 2 of (0, 1))\n1: 2 of (0, 1)\n2: -\n")
	high, e := registry.High(l)
	same(t, "High", e, api.OK)
	same(t, "High", configuration.Text(high), "0: 3 of (1 of (0), 1 of (1), 2 of (0, 1))\n1: 2 of (0, 1)\n2: -\n")
	five := []api.Trust{trust(1, 0), trust(1, 1), trust(1, 2), trust(1, 3), trust(1, 4)}
	for _, c := range []struct {
		l [][]api.Trust
		e api.Errno
	}{
		{make([][]api.Trust, 10), api.OK},
		{nil, api.OK},
		{[][]api.Trust{five[:4], nil, nil, nil}, api.OK},
		{[][]api.Trust{append(five[:4:4], five[:4]...), nil, nil, nil}, api.OK},
		{[][]api.Trust{{deep(4)}}, api.OK},
		{[][]api.Trust{{deep(3), p}}, api.OK},
		{make([][]api.Trust, 11), api.ErrLimit},
		{[][]api.Trust{five, nil, nil, nil, nil}, api.ErrLimit},
		{[][]api.Trust{five, {trust(0)}}, api.ErrLimit},
		{[][]api.Trust{{trust(0)}, five}, api.ErrThreshold},
		{[][]api.Trust{append(five[:5:5], trust(1, 2, 2)), nil, nil, nil, nil}, api.ErrDuplicate},
		{[][]api.Trust{{deep(4), p}}, api.ErrLimit},
		{[][]api.Trust{{deep(5)}}, api.ErrLimit},
		{[][]api.Trust{{s}}, api.ErrNode},
		{[][]api.Trust{{p, s}}, api.ErrNode},
		{[][]api.Trust{{s}, five}, api.ErrLimit},
	} {
		for name, f := range map[string]func([][]api.Trust) (api.Config, api.Errno){"Low": registry.Low, "High": registry.High} {
			got, e := f(c.l)
			same(t, name+fmt.Sprint(c.l), e, c.e)
			if e != api.OK {
				same(t, name, len(got.Members), 0)
			}
		}
	}
	low.Members[1].Trust.Nodes[0] = 9
	same(t, "no shared memory", l[1][0].Nodes[0], 0)
}

// The consequences of the chapter: in whatever order, and however often, declarations arrive, the same is known.
func TestConsequences(t *testing.T) {
	r := rand.New(rand.NewSource(8))
	for range 60 {
		var l []api.Declaration
		for range r.Intn(12) {
			l = append(l, sign(r.Intn(3), 1+r.Intn(3), trust(1, r.Intn(4))))
		}
		build := func(l []api.Declaration) api.Registry {
			x := registry.Empty(3)
			for _, d := range l {
				y, e := registry.Add(keys, x, d)
				same(t, "Add", e, api.OK)
				one, _ := registry.Add(keys, registry.Empty(3), d)
				z, _ := registry.Merge(x, one)
				same(t, "Add is Merge", registry.Same(y, z), true)
				x = y
			}
			return x
		}
		x := build(l)
		again := slices.Concat(l, l)
		r.Shuffle(len(again), func(i, k int) { again[i], again[k] = again[k], again[i] })
		same(t, "order", registry.Same(build(again), x), true)
		same(t, "valid", registry.Valid(x), api.OK)
		cut := r.Intn(len(l) + 1)
		a, b := build(l[:cut]), build(l[cut:])
		ab, _ := registry.Merge(a, b)
		ba, _ := registry.Merge(b, a)
		same(t, "commutative", registry.Same(ab, ba), true)
		same(t, "all", registry.Same(ab, x), true)
		xx, _ := registry.Merge(x, x)
		same(t, "idempotent", registry.Same(xx, x), true)
		for node := range 3 {
			seqs := map[int]map[string]bool{}
			for _, d := range l {
				if d.Node == node {
					if seqs[d.Seq] == nil {
						seqs[d.Seq] = map[string]bool{}
					}
					seqs[d.Seq][declaration.Bytes(d)] = true
				}
			}
			two := false
			for _, s := range seqs {
				two = two || len(s) > 1
			}
			evidence, ok := registry.Evidence(x, node)
			same(t, "exposed", ok, two)
			same(t, "exposed", registry.Exposed(x)>>node&1 == 1, two)
			if ok {
				same(t, "Proves", declaration.Proves(keys, evidence), api.OK)
			}
		}
	}
}

// The consequences of the chapter: Low needs one of the trusts, High all.
func TestMeaning(t *testing.T) {
	l := []api.Trust{trust(2, 0, 1, 2), trust(1, 2, 3), trust(2, 1, 3)}
	low, _ := registry.Low([][]api.Trust{l, nil, nil, nil})
	high, _ := registry.High([][]api.Trust{l, nil, nil, nil})
	for s := range 16 {
		n := 0
		for _, x := range l {
			if threshold.Satisfied(x, s) {
				n++
			}
		}
		same(t, "Low", threshold.Satisfied(low.Members[0].Trust, s), n > 0)
		same(t, "High", threshold.Satisfied(high.Members[0].Trust, s), n == 3)
	}
	same(t, "text", notation.Text(l[1]), "1 of (2, 3)")
}
