package declaration_test

import (
	"fmt"
	"hash/fnv"
	"math"
	"strings"
	"testing"

	"trustquorum/api"
	"trustquorum/declaration"
	"trustquorum/notation"
	"trustquorum/threshold"
)

func same[T comparable](t *testing.T, name string, got, want T) {
	t.Helper()
	if got != want {
		t.Errorf("%s: got %v, want %v", name, got, want)
	}
}

func trust(k int, nodes ...int) api.Trust { return api.Trust{Threshold: k, Nodes: nodes} }

func of(node, seq int, t api.Trust) api.Declaration {
	return api.Declaration{Node: node, Seq: seq, Trust: t}
}

// levels is a trust with so many levels.
func levels(n int) api.Trust {
	t := trust(1, 0)
	for range n - 1 {
		t = api.Trust{Threshold: 1, Inner: []api.Trust{t}}
	}
	return t
}

// entries is a trust with n entries, an even number.
func entries(n int) api.Trust {
	t := api.Trust{Threshold: 1}
	for range n / 2 {
		t.Inner = append(t.Inner, trust(1, 0))
	}
	return t
}

var good = of(3, 1, trust(1, 3, 4))

// broken has declarations that are not plain, with their errors.
var broken = []struct {
	d api.Declaration
	e api.Errno
}{
	{of(-1, 0, api.Trust{}), api.ErrNode},
	{of(10, 1, trust(1, 0)), api.ErrNode},
	{of(0, 0, api.Trust{}), api.ErrInvalid},
	{of(0, 31, trust(1, 0)), api.ErrInvalid},
	{of(0, -1, trust(1, 0)), api.ErrInvalid},
	{of(0, 1, api.Trust{}), api.ErrThreshold},
	{of(0, 1, trust(1, 10)), api.ErrNode},
	{of(0, 1, trust(1, 2, 2)), api.ErrDuplicate},
	{of(0, 1, levels(4)), api.ErrLimit},
	{of(0, 1, levels(5)), api.ErrLimit},
	{of(0, 1, entries(42)), api.ErrLimit},
	{of(0, 1, entries(202)), api.ErrLimit},
	{of(math.MinInt, math.MaxInt, api.Trust{}), api.ErrNode},
}

// P7.1
func TestPlain(t *testing.T) {
	for _, d := range []api.Declaration{good, of(0, 30, trust(1, 9)), of(9, 1, levels(3)), of(0, 1, entries(40)), {Node: 1, Seq: 2, Trust: trust(1, 0), Tag: 77}} {
		same(t, "plain", declaration.Plain(d), api.OK)
	}
	for _, c := range broken {
		same(t, fmt.Sprint(c.d), declaration.Plain(c.d), c.e)
		same(t, "Bytes", declaration.Bytes(c.d), "")
		same(t, "Text", declaration.Text(c.d), "")
		_, e := declaration.Sign(1, c.d.Node, c.d.Seq, c.d.Trust)
		same(t, "Sign", e, c.e)
		same(t, "Check", declaration.Check(nil, c.d), c.e)
	}
}

// P7.1
func TestBytes(t *testing.T) {
	same(t, "example", declaration.Bytes(good), "d 3 1 1 of (3, 4)")
	inner := api.Trust{Threshold: 2, Nodes: []int{5, 1}, Inner: []api.Trust{trust(1, 9)}}
	same(t, "inner", declaration.Bytes(of(0, 30, inner)), "d 0 30 2 of (5, 1, 1 of (9))")
}

// P7.1
func TestCompare(t *testing.T) {
	order := []api.Declaration{
		of(-1, 5, trust(1, 1)), of(0, 0, trust(1, 5)), of(0, 1, trust(0, 3)), of(0, 1, trust(1, 0)), of(0, 1, trust(1, 0, 1)), of(0, 1, trust(1, 2)),
		of(0, 2, trust(1, 0)), of(0, 10, trust(1, 0)), of(0, 31, trust(1, 0)), of(2, 1, trust(1, 0)), of(9, 1, trust(1, 0)), of(10, 1, trust(1, 0)),
	}
	for i, a := range order {
		for k, b := range order {
			want := 0
			if i < k {
				want = -1
			} else if i > k {
				want = 1
			}
			same(t, fmt.Sprint(a, b), declaration.Compare(a, b), want)
		}
	}
	same(t, "tags", declaration.Compare(api.Declaration{Node: 1, Seq: 1, Trust: trust(1, 0), Tag: 5}, of(1, 1, trust(1, 0))), 0)
	same(t, "not plain", declaration.Compare(of(0, 1, trust(0)), of(0, 1, trust(2))), 0)
}

// P7.2
func TestHash(t *testing.T) {
	same(t, "nothing", declaration.Hash(""), uint64(14695981039346656037))
	same(t, "a", declaration.Hash("a"), uint64(12638187200555641996))
	for _, s := range []string{"\x00", "\xff\x80", "d 3 1 1 of (3, 4)", strings.Repeat("x", 1000)} {
		h := fnv.New64a()
		h.Write([]byte(s))
		same(t, s, declaration.Hash(s), h.Sum64())
	}
	same(t, "key", declaration.Tag(0x0102030405060708, "abc"), declaration.Hash("\x01\x02\x03\x04\x05\x06\x07\x08abc"))
	same(t, "key", declaration.Tag(1<<63|255, ""), declaration.Hash("\x80\x00\x00\x00\x00\x00\x00\xff"))
}

// P7.2
func TestSign(t *testing.T) {
	keys := []uint64{1, 2, 3, 0xffeeddccbbaa9988}
	d, e := declaration.Sign(keys[3], 3, 1, trust(1, 3, 4))
	same(t, "Sign", e, api.OK)
	same(t, "Sign", fmt.Sprint(d), fmt.Sprint(api.Declaration{Node: 3, Seq: 1, Trust: trust(1, 3, 4), Tag: declaration.Tag(keys[3], "d 3 1 1 of (3, 4)")}))
	same(t, "Check", declaration.Check(keys, d), api.OK)
	same(t, "no key", declaration.Check(keys[:3], d), api.ErrMissing)
	same(t, "no keys", declaration.Check(nil, d), api.ErrMissing)
	same(t, "another key", declaration.Check([]uint64{1, 2, 3, 4}, d), api.ErrTag)
	other := d
	other.Tag++
	same(t, "tag", declaration.Check(keys, other), api.ErrTag)
	other = d
	other.Seq++
	same(t, "number", declaration.Check(keys, other), api.ErrTag)
	own := trust(1, 3, 4)
	d, _ = declaration.Sign(1, 3, 1, own)
	d.Trust.Nodes[0] = 9
	same(t, "no shared memory", own.Nodes[0], 3)
	zero, e := declaration.Sign(1, 3, 99, own)
	same(t, "zero", fmt.Sprint(zero, e), fmt.Sprint(api.Declaration{}, api.ErrInvalid))
}

// P7.3
func TestText(t *testing.T) {
	d := good
	d.Tag = 0xabcdef
	same(t, "Text", declaration.Text(d), "d 3 1 1 of (3, 4) 0000000000abcdef")
	for _, tag := range []uint64{0, 1, math.MaxUint64, 1 << 63} {
		d := of(9, 30, api.Trust{Threshold: 2, Nodes: []int{5, 1}, Inner: []api.Trust{trust(1, 9)}})
		d.Tag = tag
		back, e := declaration.Parse(declaration.Text(d))
		same(t, "Parse", e, api.OK)
		same(t, "Parse", fmt.Sprint(back), fmt.Sprint(d))
	}
}

// P7.3
func TestParseErrors(t *testing.T) {
	for _, text := range []string{
		"", "d", "d 3 1", "d 3 1 1 of (3, 4)", "d 3 1 1 of (3, 4) 0000000000abcde", "d 3 1 1 of (3, 4) 00000000000abcdef", "d 3 1 1 of (3, 4) 0000000000abcdeg", "d 3 1 1 of (3, 4) 0000000000ABCDEF",
		"d 3 1 1 of (3, 4)  0000000000abcdef", "d 3 1 1 of (3,4) 0000000000abcdef", "d 3 1  1 of (3, 4) 0000000000abcdef", "d 03 1 1 of (3, 4) 0000000000abcdef", "d 3 01 1 of (3, 4) 0000000000abcdef",
		"d +3 1 1 of (3, 4) 0000000000abcdef", "e 3 1 1 of (3, 4) 0000000000abcdef", " d 3 1 1 of (3, 4) 0000000000abcdef", "d 3 1 1 of (3, 4) 0000000000abcdef ", "d 3 1 1 of (3, 4) 0000000000abcdef\n",
		"d 10 1 1 of (3, 4) 0000000000abcdef", "d 3 0 1 of (3, 4) 0000000000abcdef", "d 3 31 1 of (3, 4) 0000000000abcdef", "d 3 1 3 of (3, 4) 0000000000abcdef", "d 3 1 1 of (3, 3) 0000000000abcdef",
		"d 3 1 2 of (1 of (3), 4) 0000000000abcdef", "d 3 1 1 of (1 of (1 of (1 of (0)))) 0000000000abcdef", "d 3 1 ? 0000000000abcdef", " ", "    ", strings.Repeat(" ", api.MaxText), strings.Repeat("x", api.MaxText),
	} {
		d, e := declaration.Parse(text)
		same(t, text, e, api.ErrSyntax)
		same(t, text, fmt.Sprint(d), fmt.Sprint(api.Declaration{}))
	}
	_, e := declaration.Parse(strings.Repeat(" ", api.MaxText+1))
	same(t, "too long", e, api.ErrLimit)
}

// P7.4
func TestProves(t *testing.T) {
	keys := []uint64{10, 11, 12}
	sign := func(node, seq int, x api.Trust) api.Declaration {
		d, e := declaration.Sign(keys[node], node, seq, x)
		same(t, notation.Text(x), e, threshold.Valid(x))
		return d
	}
	a, b := sign(2, 2, trust(1, 0)), sign(2, 2, trust(1, 1))
	false1 := b
	false1.Tag ^= 1
	for _, c := range []struct {
		a, b api.Declaration
		e    api.Errno
	}{
		{a, b, api.OK},
		{b, a, api.ErrOrder},
		{a, a, api.ErrOrder},
		{a, sign(2, 3, trust(1, 1)), api.ErrInvalid},
		{a, sign(1, 2, trust(1, 1)), api.ErrInvalid},
		{sign(2, 3, trust(1, 1)), a, api.ErrInvalid},
		{a, false1, api.ErrTag},
		{false1, a, api.ErrTag},
		{of(3, 1, trust(1, 0)), a, api.ErrMissing},
		{a, of(3, 1, trust(1, 0)), api.ErrMissing},
		{api.Declaration{}, false1, api.ErrInvalid},
		{a, of(2, 2, trust(0)), api.ErrThreshold},
		{false1, of(2, 2, trust(0)), api.ErrTag},
	} {
		same(t, fmt.Sprint(c.a, c.b), declaration.Proves(keys, api.Evidence{A: c.a, B: c.b}), c.e)
	}
}
