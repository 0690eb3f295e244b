package nomination_test

import (
	"fmt"
	"math"
	"math/rand"
	"slices"
	"strings"
	"testing"

	"trustquorum/api"
	"trustquorum/intact"
	"trustquorum/leaders"
	"trustquorum/nodeset"
	"trustquorum/nomination"
)

func same[T comparable](t *testing.T, name string, got, want T) {
	t.Helper()
	if got != want {
		t.Errorf("%s: got %v, want %v", name, got, want)
	}
}

func trust(k int, nodes ...int) api.Trust { return api.Trust{Threshold: k, Nodes: nodes} }

func list(text string) []api.Value { return strings.Fields(text) }

func said(node, seq int, t api.Trust, votes, accepts string) api.Nomination {
	return api.Nomination{Node: node, Seq: seq, Trust: t, Votes: list(votes), Accepts: list(accepts)}
}

func start(node, slot int, x api.Trust, own string) api.Nominator {
	n, e := nomination.Start(node, slot, x, own)
	if e != api.OK {
		panic(e)
	}
	return n
}

// show writes what changes of a nominator.
func show(n api.Nominator) string {
	return fmt.Sprint(n.Round, "/", n.Seq, " v ", n.Votes, " a ", n.Accepts, " c ", n.Candidates, " h ", len(n.Heard))
}

// led returns the first slot in which the leader of node 0 with a trust, in round 1, is a node.
func led(x api.Trust, leader int) int {
	for slot := range 1000 {
		if l, _ := leaders.Choose(x, 0, slot, 1); l == leader {
			return slot
		}
	}
	panic("no slot")
}

var (
	three = trust(2, 0, 1, 2)
	long  = strings.Repeat("z", api.MaxBytes)
)

// many is n values, ascending.
func many(n int) []api.Value {
	var l []api.Value
	for i := range n {
		l = append(l, fmt.Sprint(100+i))
	}
	return l
}

// P22.1
func TestValues(t *testing.T) {
	order := []api.Value{"", "\x00", "a", "b", "\xff", "aa", "ab", "b\x00", "\xff\xff", "aaa", long, long + "a"}
	for i, a := range order {
		for k, b := range order {
			want := 0
			if i < k {
				want = -1
			} else if i > k {
				want = 1
			}
			same(t, fmt.Sprint(i, k), nomination.Compare(a, b), want)
		}
	}
	for _, c := range []struct {
		l    []api.Value
		want api.Value
		ok   bool
	}{
		{nil, "", false},
		{list("b aa ab"), "ab", true},
		{list("ab b aa"), "ab", true},
		{[]api.Value{""}, "", false},
		{[]api.Value{long + "z"}, "", false},
		{[]api.Value{"", "x", long + "z"}, "x", true},
		{[]api.Value{"x", long}, long, true},
		{[]api.Value{"\x00"}, "\x00", true},
	} {
		v, ok := nomination.Composite(c.l)
		same(t, "Composite", v, c.want)
		same(t, "Composite", ok, c.ok)
	}
}

// P22.1
func TestPlain(t *testing.T) {
	good := said(9, 1, three, "a b aa", "b")
	good.Accepts = many(40)
	same(t, "plain", nomination.Plain(good), true)
	for name, change := range map[string]func(*api.Nomination){
		"Node":         func(m *api.Nomination) { m.Node = 10 },
		"negative":     func(m *api.Nomination) { m.Node = -1 },
		"Seq":          func(m *api.Nomination) { m.Seq = 0 },
		"Trust":        func(m *api.Nomination) { m.Trust = trust(0) },
		"order":        func(m *api.Nomination) { m.Votes = list("aa b") },
		"twice":        func(m *api.Nomination) { m.Votes = list("a a") },
		"empty":        func(m *api.Nomination) { m.Votes = []api.Value{"", "a"} },
		"too long":     func(m *api.Nomination) { m.Accepts = []api.Value{long + "z"} },
		"too many":     func(m *api.Nomination) { m.Accepts = many(41) },
		"Accepts":      func(m *api.Nomination) { m.Accepts = list("b a") },
		"no such node": func(m *api.Nomination) { m.Node = math.MaxInt },
	} {
		m := good
		change(&m)
		same(t, name, nomination.Plain(m), false)
		_, e := nomination.Hear(start(0, 0, three, ""), m)
		same(t, name, e, api.ErrInvalid)
	}
}

// full is a valid nominator with all that one can have.
func full() api.Nominator {
	return api.Nominator{Node: 1, Slot: api.MaxSlot, Round: 7, Seq: 5, Trust: three, Own: "o", Votes: list("a b"), Accepts: list("b c"), Candidates: list("c"), Heard: []api.Nomination{said(0, 1, trust(1, 9), "a", "b"), said(9, 5, three, "", "")}}
}

// P22.1
func TestValid(t *testing.T) {
	same(t, "valid", nomination.Valid(full()), true)
	for name, change := range map[string]func(*api.Nominator){
		"Node":            func(n *api.Nominator) { n.Node = 10 },
		"negative":        func(n *api.Nominator) { n.Node = -1 },
		"Slot":            func(n *api.Nominator) { n.Slot = api.MaxSlot + 1 },
		"negative Slot":   func(n *api.Nominator) { n.Slot = -1 },
		"Round 0":         func(n *api.Nominator) { n.Round = 0 },
		"Round":           func(n *api.Nominator) { n.Round = api.MaxRounds + 1 },
		"Seq 0":           func(n *api.Nominator) { n.Seq = 0 },
		"Seq":             func(n *api.Nominator) { n.Seq = api.MaxTurn + 1 },
		"Trust":           func(n *api.Nominator) { n.Trust = trust(0) },
		"Own":             func(n *api.Nominator) { n.Own = long + "z" },
		"Votes":           func(n *api.Nominator) { n.Votes = list("b a") },
		"Accepts":         func(n *api.Nominator) { n.Accepts = list("c b") },
		"Candidates":      func(n *api.Nominator) { n.Candidates = list("c c") },
		"too many":        func(n *api.Nominator) { n.Votes = many(41) },
		"not accepted":    func(n *api.Nominator) { n.Candidates = list("a") },
		"heard itself":    func(n *api.Nominator) { n.Heard[0].Node = 1 },
		"not plain":       func(n *api.Nominator) { n.Heard[0].Seq = 0 },
		"heard twice":     func(n *api.Nominator) { n.Heard[0].Node = 9 },
		"heard, disorder": func(n *api.Nominator) { n.Heard[1].Node = 0; n.Heard[0].Node = 2 },
	} {
		n := full()
		change(&n)
		same(t, name, nomination.Valid(n), false)
		want := fmt.Sprint(api.Nominator{}, api.ErrInvalid)
		same(t, name, fmt.Sprint(nomination.Hear(n, said(5, 1, three, "", ""))), want)
		same(t, name, fmt.Sprint(nomination.Tick(n)), want)
		same(t, name, fmt.Sprint(nomination.Declare(n, trust(0))), want)
	}
	n := full()
	n.Own, n.Slot, n.Round, n.Seq = "", 0, api.MaxRounds, api.MaxTurn
	same(t, "valid", nomination.Valid(n), true)
}

// P22.1
func TestSame(t *testing.T) {
	changes := []func(*api.Nominator){
		func(n *api.Nominator) {},
		func(n *api.Nominator) { n.Node = 2 },
		func(n *api.Nominator) { n.Slot = 2 },
		func(n *api.Nominator) { n.Round = 2 },
		func(n *api.Nominator) { n.Seq = 2 },
		func(n *api.Nominator) { n.Trust = trust(1, 0) },
		func(n *api.Nominator) { n.Own = "" },
		func(n *api.Nominator) { n.Votes = nil },
		func(n *api.Nominator) { n.Accepts = nil },
		func(n *api.Nominator) { n.Candidates = nil },
		func(n *api.Nominator) { n.Heard = n.Heard[1:] },
		func(n *api.Nominator) { n.Heard[0].Node = 7 },
		func(n *api.Nominator) { n.Heard[0].Seq = 7 },
		func(n *api.Nominator) { n.Heard[0].Trust = three },
		func(n *api.Nominator) { n.Heard[0].Votes = nil },
		func(n *api.Nominator) { n.Heard[0].Accepts = nil },
	}
	for i, f := range changes {
		for k, g := range changes {
			a, b := full(), full()
			f(&a)
			g(&b)
			same(t, fmt.Sprint(i, k), nomination.Same(a, b), i == k)
		}
	}
}

// P22.2
func TestStart(t *testing.T) {
	alone := start(4, 7, trust(1, 4), "v")
	same(t, "alone", fmt.Sprint(alone), fmt.Sprint(api.Nominator{Node: 4, Slot: 7, Round: 1, Seq: 1, Trust: trust(1, 4), Own: "v", Votes: list("v"), Accepts: list("v"), Candidates: list("v")}))
	same(t, "no value", show(start(4, 7, trust(1, 4), "")), "1/1 v [] a [] c [] h 0")
	same(t, "the leader is itself", show(start(0, led(three, 0), three, "v")), "1/1 v [v] a [] c [] h 0")
	same(t, "the leader is another one", show(start(0, led(three, 1), three, "v")), "1/1 v [] a [] c [] h 0")
	for _, c := range []struct {
		node, slot int
		x          api.Trust
		own        string
		e          api.Errno
	}{
		{-1, -1, trust(0), long + "z", api.ErrNode},
		{10, 0, three, "", api.ErrNode},
		{0, -1, trust(0), long + "z", api.ErrInvalid},
		{0, api.MaxSlot + 1, three, "", api.ErrInvalid},
		{0, 0, trust(0), long + "z", api.ErrThreshold},
		{0, 0, three, long + "z", api.ErrLimit},
	} {
		n, e := nomination.Start(c.node, c.slot, c.x, c.own)
		same(t, "Start", fmt.Sprint(n, e), fmt.Sprint(api.Nominator{}, c.e))
	}
	same(t, "limits", nomination.Valid(start(9, api.MaxSlot, three, long)), true)
	n := full()
	same(t, "Say", fmt.Sprint(nomination.Say(n)), fmt.Sprint(said(1, 5, three, "a b", "b c")))
	m := nomination.Say(n)
	m.Votes[0], m.Accepts[0], m.Trust.Nodes[0] = "x", "x", 9
	same(t, "no shared memory", nomination.Same(n, full()), true)
	odd := nomination.Say(api.Nominator{Node: -3, Seq: -4, Votes: []api.Value{""}})
	same(t, "Say", fmt.Sprint(odd), fmt.Sprint(api.Nomination{Node: -3, Seq: -4, Votes: []api.Value{""}}))
}

// P22.3 and P22.4
func TestHear(t *testing.T) {
	n := start(0, led(three, 1), three, "own")
	hear := func(m api.Nomination, want string) {
		t.Helper()
		before := fmt.Sprint(n)
		next, e := nomination.Hear(n, m)
		same(t, "Hear", fmt.Sprint(show(next), " ", e), want+" 0")
		same(t, "the argument stays", fmt.Sprint(n), before)
		n = next
	}
	hear(said(2, 3, three, "b c", ""), "1/1 v [] a [] c [] h 1")
	hear(said(1, 3, three, "a d", "b"), "1/2 v [a b d] a [a b d] c [b] h 2")
	hear(said(1, 4, three, "a d e", "b d"), "1/2 v [a b d] a [a b d] c [b d] h 2")
	hear(said(1, 5, three, "f", "a d"), "1/2 v [a b d] a [a b d] c [a b d] h 2")
	hear(said(2, 9, three, "e", "e"), "1/2 v [a b d] a [a b d] c [a b d] h 2")
	hear(said(1, 6, three, "", "e"), "1/3 v [a b d] a [a b d e] c [a b d e] h 2")
	for _, c := range []struct {
		m api.Nomination
		e api.Errno
	}{
		{said(0, 9, three, "", ""), api.ErrInvalid},
		{said(1, 0, three, "", ""), api.ErrInvalid},
		{said(1, 6, three, "", ""), api.ErrOld},
		{said(1, 5, three, "", ""), api.ErrOld},
	} {
		got, e := nomination.Hear(n, c.m)
		same(t, "Hear", fmt.Sprint(got, e), fmt.Sprint(api.Nominator{}, c.e))
	}
	m := said(5, 1, three, "q", "q")
	n, _ = nomination.Hear(n, m)
	same(t, "order", fmt.Sprint(n.Heard[0].Node, n.Heard[1].Node, n.Heard[2].Node), "1 2 5")
	n.Heard[2].Votes[0], n.Heard[2].Trust.Nodes[0] = "x", 9
	same(t, "no shared memory", fmt.Sprint(m), fmt.Sprint(said(5, 1, three, "q", "q")))
}

// P22.3: Votes of leaders have room for MaxVoted values, and so have Accepts.
func TestMany(t *testing.T) {
	n := start(0, led(three, 1), three, "")
	m := api.Nomination{Node: 1, Seq: 1, Trust: trust(3, 1, 5, 6), Votes: many(30)}
	n, _ = nomination.Hear(n, m)
	same(t, "thirty", len(n.Votes), 30)
	m.Seq, m.Votes, m.Accepts = 2, append(many(30)[:5:5], "2000", "2001"), append([]api.Value{"1", "2"}, many(50)[20:50]...)
	n, _ = nomination.Hear(n, m)
	want := append([]api.Value{"1", "2"}, many(38)...)
	same(t, "forty, in ascending order", fmt.Sprint(n.Votes), fmt.Sprint(want))
	m.Seq, m.Votes, m.Accepts = 3, list("0"), nil
	n, _ = nomination.Hear(n, m)
	same(t, "no room", fmt.Sprint(n.Votes), fmt.Sprint(want))
	same(t, "valid", nomination.Valid(n), true)
	n = start(0, 0, three, "")
	n, _ = nomination.Hear(n, api.Nomination{Node: 1, Seq: 1, Trust: three, Accepts: many(30)})
	n, _ = nomination.Hear(n, api.Nomination{Node: 2, Seq: 1, Trust: three, Accepts: many(30)})
	same(t, "accepts", len(n.Accepts), 30)
	n, _ = nomination.Hear(n, api.Nomination{Node: 1, Seq: 2, Trust: three, Accepts: many(50)[20:]})
	n, _ = nomination.Hear(n, api.Nomination{Node: 2, Seq: 2, Trust: three, Accepts: many(50)[20:]})
	same(t, "forty are accepted", fmt.Sprint(n.Accepts), fmt.Sprint(many(40)))
	same(t, "valid", nomination.Valid(n), true)
}

// P22.3 and P22.4
func TestTick(t *testing.T) {
	slot := led(three, 1)
	n := start(0, slot, three, "own")
	for round := 2; ; round++ {
		next, e := nomination.Tick(n)
		same(t, "Tick", e, api.OK)
		same(t, "Round", next.Round, round)
		all, _ := leaders.Leaders(three, 0, slot, round)
		same(t, "its own value", len(next.Votes) == 1, nodeset.Has(all, 0))
		if len(next.Votes) == 1 {
			same(t, "Seq", next.Seq, 2)
			break
		}
		same(t, "Seq", next.Seq, 1)
		n = next
	}
	f := full()
	next, _ := nomination.Tick(f)
	f.Round++
	same(t, "with candidates", nomination.Same(next, f), true)
	f.Round = api.MaxRounds
	got, e := nomination.Tick(f)
	same(t, "the last round", fmt.Sprint(got, e), fmt.Sprint(api.Nominator{}, api.ErrLimit))
}

// P22.3: all leaders of all rounds are listened to, itself among them.
func TestLeaders(t *testing.T) {
	for slot := range 40 {
		for _, heard := range []int{0, 1, 2, 3} {
			n := start(0, slot, three, "own")
			for k := 1; k <= 2; k++ {
				if heard>>(k-1)&1 == 1 {
					n, _ = nomination.Hear(n, said(k, 1, trust(3, 7, 8, 9), fmt.Sprint("v", k), ""))
				}
			}
			for round := 1; round < 8; round++ {
				all, _ := leaders.Leaders(three, 0, slot, round)
				var want []api.Value
				for k := 1; k <= 2; k++ {
					if nodeset.Has(all, k) && heard>>(k-1)&1 == 1 {
						want = append(want, fmt.Sprint("v", k))
					}
				}
				if nodeset.Has(all, 0) {
					want = append(want, "own")
				}
				same(t, fmt.Sprint(slot, heard, round), fmt.Sprint(n.Votes), fmt.Sprint(want))
				n, _ = nomination.Tick(n)
			}
		}
	}
}

// P22.3 and P22.4
func TestDeclare(t *testing.T) {
	n := start(0, led(three, 0), three, "own")
	got, e := nomination.Declare(n, trust(2, 0, 1, 2))
	same(t, "the same", fmt.Sprint(nomination.Same(got, n), e), "true 0")
	x := trust(1, 0)
	got, e = nomination.Declare(n, x)
	same(t, "another one", fmt.Sprint(show(got), " ", e), "1/2 v [own] a [own] c [own] h 0 0")
	got.Trust.Nodes[0] = 8
	same(t, "no shared memory", x.Nodes[0], 0)
	got, e = nomination.Declare(n, trust(0))
	same(t, "not valid", fmt.Sprint(got, e), fmt.Sprint(api.Nominator{}, api.ErrThreshold))
}

// Messages count as they are heard: the trust of others, and the least value first.
func TestView(t *testing.T) {
	n := start(0, led(three, 0), three, "v")
	n, _ = nomination.Hear(n, said(1, 1, trust(2, 1, 5), "v", ""))
	same(t, "needs node 5", show(n), "1/1 v [v] a [] c [] h 1")
	n, _ = nomination.Hear(n, said(1, 2, three, "v", "v"))
	same(t, "and no more", show(n), "1/2 v [v] a [v] c [v] h 1")
}

// The consequences of the chapter: with all messages of intact nodes they have the same candidates.
func TestConsequences(t *testing.T) {
	r := rand.New(rand.NewSource(22))
	agreed := 0
	for range 60 {
		size, ill := 3+r.Intn(2), 0
		var c api.Config
		for range size {
			c.Members = append(c.Members, api.Member{Declared: true, Trust: trust(size-1, nodeset.Nodes(1<<size-1)...)})
		}
		if size == 4 && r.Intn(2) == 0 {
			ill = 1 << r.Intn(4)
		}
		good, _ := intact.Of(c, c, ill)
		nodes := make([]api.Nominator, size)
		slot := r.Intn(1000)
		for k := range nodes {
			nodes[k] = start(k, slot, c.Members[k].Trust, fmt.Sprint("v", k))
		}
		hear := func(k int, m api.Nomination) {
			next, e := nomination.Hear(nodes[k], m)
			if e != api.OK {
				return
			}
			same(t, "valid", nomination.Valid(next), true)
			for _, v := range nodes[k].Votes {
				same(t, "no vote is lost", slices.Contains(next.Votes, v), true)
			}
			for _, v := range nodes[k].Accepts {
				same(t, "no accept is lost", slices.Contains(next.Accepts, v), true)
			}
			for _, v := range nodes[k].Candidates {
				same(t, "no candidate is lost", slices.Contains(next.Candidates, v), true)
			}
			if len(nodes[k].Candidates) > 0 {
				same(t, "no new votes", len(next.Votes), len(nodes[k].Votes))
			}
			nodes[k] = next
		}
		for range 60 {
			k := r.Intn(size)
			switch from := r.Intn(size); {
			case ill>>from&1 == 1:
				hear(k, said(from, 1+r.Intn(90), trust(1, from), fmt.Sprint("l", r.Intn(3)), fmt.Sprint("l", r.Intn(3))))
			case r.Intn(8) == 0:
				nodes[k], _ = nomination.Tick(nodes[k])
			default:
				hear(k, nomination.Say(nodes[from]))
			}
		}
		for range 40 {
			for _, from := range nodeset.Nodes(good) {
				for _, k := range nodeset.Nodes(good) {
					hear(k, nomination.Say(nodes[from]))
				}
			}
		}
		want := nodes[nodeset.Nodes(good)[0]].Candidates
		agreed += len(want)
		for _, k := range nodeset.Nodes(good) {
			same(t, "the same candidates", fmt.Sprint(nodes[k].Candidates), fmt.Sprint(want))
		}
	}
	same(t, "some", agreed > 30, true)
	for range 100 {
		l := many(20)
		r.Shuffle(20, func(i, k int) { l[i], l[k] = l[k], l[i] })
		cut := 1 + r.Intn(19)
		a, _ := nomination.Composite(l[:cut])
		b, _ := nomination.Composite(l[cut:])
		ab, _ := nomination.Composite([]api.Value{a, b})
		all, _ := nomination.Composite(l)
		same(t, "composite of parts", ab, all)
		same(t, "order", all, "119")
	}
}
