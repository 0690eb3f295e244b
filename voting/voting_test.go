package voting_test

import (
	"fmt"
	"math"
	"math/rand"
	"testing"

	"trustquorum/api"
	"trustquorum/claims"
	"trustquorum/federated"
	"trustquorum/voting"
)

func same[T comparable](t *testing.T, name string, got, want T) {
	t.Helper()
	if got != want {
		t.Errorf("%s: got %v, want %v", name, got, want)
	}
}

func trust(k int, nodes ...int) api.Trust { return api.Trust{Threshold: k, Nodes: nodes} }

// of reads a list of claims.
func of(text string) []api.Claim {
	l, e := claims.Parse(text)
	if e != api.OK {
		panic(text)
	}
	return l
}

// one reads a claim.
func one(text string) api.Claim { return of(text)[0] }

func message(node, seq int, x api.Trust, votes, accepts string) api.Message {
	return api.Message{Node: node, Seq: seq, Trust: x, Votes: of(votes), Accepts: of(accepts)}
}

// show writes what changes of a voter.
func show(v api.Voter) string {
	return fmt.Sprint(v.Seq, " v ", claims.Text(v.Votes), " a ", claims.Text(v.Accepts), " c ", claims.Text(v.Confirms), " h ", len(v.Heard))
}

var three = trust(2, 0, 1, 2)

func start(node int, x api.Trust) api.Voter {
	v, e := voting.Start(node, x)
	if e != api.OK {
		panic(e)
	}
	return v
}

// broken has voters that are not valid.
func broken() map[string]api.Voter {
	change := func(f func(*api.Voter)) api.Voter {
		v := start(0, three)
		f(&v)
		return v
	}
	return map[string]api.Voter{
		"zero":                   {},
		"Node -1":                change(func(v *api.Voter) { v.Node = -1 }),
		"Node 10":                change(func(v *api.Voter) { v.Node = 10 }),
		"Seq 0":                  change(func(v *api.Voter) { v.Seq = 0 }),
		"Seq too great":          change(func(v *api.Voter) { v.Seq = api.MaxTurn + 1 }),
		"Trust":                  change(func(v *api.Voter) { v.Trust = trust(0) }),
		"Votes not plain":        change(func(v *api.Voter) { v.Votes = []api.Claim{one("1=0"), one("0=0")} }),
		"Votes contradict":       change(func(v *api.Voter) { v.Votes = of("0=0 0=1") }),
		"Accepts not plain":      change(func(v *api.Voter) { v.Accepts = []api.Claim{{Topic: 9}} }),
		"Accepts contradict":     change(func(v *api.Voter) { v.Accepts = of("0=0 0=1") }),
		"Confirms not plain":     change(func(v *api.Voter) { v.Accepts, v.Confirms = of("0=0"), []api.Claim{{}, {}} }),
		"Confirms, not Accepts":  change(func(v *api.Voter) { v.Accepts, v.Confirms = of("0=0"), of("1=0") }),
		"Heard itself":           change(func(v *api.Voter) { v.Heard = []api.Message{message(0, 1, three, "", "")} }),
		"Heard what is no plain": change(func(v *api.Voter) { v.Heard = []api.Message{message(1, 0, three, "", "")} }),
		"Heard twice": change(func(v *api.Voter) {
			v.Heard = []api.Message{message(1, 1, three, "", ""), message(1, 2, three, "", "")}
		}),
		"Heard in disorder": change(func(v *api.Voter) {
			v.Heard = []api.Message{message(2, 1, three, "", ""), message(1, 2, three, "", "")}
		}),
	}
}

// full is a valid voter with all that one can have.
func full() api.Voter {
	return api.Voter{Node: 1, Seq: api.MaxTurn, Trust: three, Votes: of("0=1 2=0"), Accepts: of("0=2 1=1"), Confirms: of("1=1"), Heard: []api.Message{message(0, 1, trust(1, 9), "0=1 0=2", "3=1 3=2"), message(9, 5, three, "", "")}}
}

// P19.1
func TestValid(t *testing.T) {
	same(t, "valid", voting.Valid(full()), true)
	same(t, "valid", voting.Valid(start(9, trust(1, 0))), true)
	for name, v := range broken() {
		same(t, name, voting.Valid(v), false)
		got, e := voting.Vote(v, one("0=0"))
		same(t, name, fmt.Sprint(got, e), fmt.Sprint(api.Voter{}, api.ErrInvalid))
		got, e = voting.Hear(v, message(5, 1, three, "", ""))
		same(t, name, fmt.Sprint(got, e), fmt.Sprint(api.Voter{}, api.ErrInvalid))
		got, e = voting.Declare(v, trust(0))
		same(t, name, fmt.Sprint(got, e), fmt.Sprint(api.Voter{}, api.ErrInvalid))
	}
}

// P19.1
func TestStart(t *testing.T) {
	v, e := voting.Start(3, three)
	same(t, "Start", fmt.Sprint(v, e), fmt.Sprint(api.Voter{Node: 3, Seq: 1, Trust: three}, 0))
	for _, c := range []struct {
		node int
		x    api.Trust
		e    api.Errno
	}{{-1, trust(0), api.ErrNode}, {10, three, api.ErrNode}, {0, trust(0), api.ErrThreshold}, {0, trust(1, 10), api.ErrNode}, {0, trust(1, 1, 1), api.ErrDuplicate}} {
		v, e := voting.Start(c.node, c.x)
		same(t, "Start", fmt.Sprint(v, e), fmt.Sprint(api.Voter{}, c.e))
	}
	x := trust(1, 0)
	v, _ = voting.Start(0, x)
	v.Trust.Nodes[0] = 4
	same(t, "no shared memory", x.Nodes[0], 0)
}

// P19.1
func TestSay(t *testing.T) {
	same(t, "Say", fmt.Sprint(voting.Say(full())), fmt.Sprint(message(1, api.MaxTurn, three, "0=1 2=0", "0=2 1=1")))
	odd := api.Voter{Node: -5, Seq: -1, Votes: []api.Claim{{Topic: 99}}}
	same(t, "not valid", fmt.Sprint(voting.Say(odd)), fmt.Sprint(api.Message{Node: -5, Seq: -1, Votes: []api.Claim{{Topic: 99}}}))
	v := full()
	m := voting.Say(v)
	m.Votes[0], m.Accepts[0], m.Trust.Nodes[0] = api.Claim{}, api.Claim{}, 9
	same(t, "no shared memory", fmt.Sprint(v.Votes, v.Accepts, v.Trust.Nodes), fmt.Sprint(of("0=1 2=0"), of("0=2 1=1"), three.Nodes))
}

// P19.1
func TestSame(t *testing.T) {
	changes := []func(*api.Voter){
		func(v *api.Voter) {},
		func(v *api.Voter) { v.Node = 2 },
		func(v *api.Voter) { v.Seq = 2 },
		func(v *api.Voter) { v.Trust = trust(1, 0) },
		func(v *api.Voter) { v.Votes = nil },
		func(v *api.Voter) { v.Accepts = of("1=1") },
		func(v *api.Voter) { v.Confirms = of("0=2") },
		func(v *api.Voter) { v.Heard = v.Heard[1:] },
		func(v *api.Voter) { v.Heard[0].Node = 7 },
		func(v *api.Voter) { v.Heard[0].Seq = 7 },
		func(v *api.Voter) { v.Heard[0].Trust = three },
		func(v *api.Voter) { v.Heard[0].Votes = of("0=1") },
		func(v *api.Voter) { v.Heard[0].Accepts = nil },
	}
	for i, f := range changes {
		for k, g := range changes {
			a, b := full(), full()
			f(&a)
			g(&b)
			same(t, fmt.Sprint(i, k), voting.Same(a, b), i == k)
		}
	}
}

// P19.2 and P19.5
func TestVote(t *testing.T) {
	v := start(0, trust(1, 0))
	v, e := voting.Vote(v, one("3=1"))
	same(t, "by itself", fmt.Sprint(show(v), e), "2 v 3=1 a 3=1 c 3=1 h 00")
	v, e = voting.Vote(v, one("3=1"))
	same(t, "again", fmt.Sprint(show(v), e), "2 v 3=1 a 3=1 c 3=1 h 00")
	v, e = voting.Vote(v, one("0=1"))
	same(t, "another one", fmt.Sprint(show(v), e), "3 v 0=1 3=1 a 0=1 3=1 c 0=1 3=1 h 00")
	_, e = voting.Vote(v, one("0=2"))
	same(t, "contradicts", e, api.ErrConflict)
	w := start(0, three)
	w, e = voting.Vote(w, one("0=1"))
	same(t, "not alone", fmt.Sprint(show(w), e), "2 v 0=1 a  c  h 00")
	w.Accepts = of("0=2")
	_, e = voting.Vote(w, one("0=1"))
	same(t, "it contradicts what it has accepted", e, api.ErrConflict)
	w.Accepts, w.Votes = of("1=5"), nil
	_, e = voting.Vote(w, one("1=4"))
	same(t, "contradicts an Accept", e, api.ErrConflict)
	for _, x := range []api.Claim{{Topic: 8}, {Value: 16}, {Topic: -1}, {Value: math.MaxInt}} {
		got, e := voting.Vote(start(0, three), x)
		same(t, "no claim", fmt.Sprint(got, e), fmt.Sprint(api.Voter{}, api.ErrInvalid))
	}
	last := start(0, three)
	last.Seq = api.MaxTurn
	last, e = voting.Vote(last, one("0=1"))
	same(t, "the last number", fmt.Sprint(last.Seq, e, voting.Valid(last)), fmt.Sprint(api.MaxTurn+1, 0, false))
}

// P19.3 and P19.5
func TestHear(t *testing.T) {
	v, _ := voting.Vote(start(0, trust(3, 0, 1, 2, 3)), one("0=1"))
	hear := func(m api.Message, want string) {
		t.Helper()
		before := fmt.Sprint(v)
		w, e := voting.Hear(v, m)
		same(t, "Hear", fmt.Sprint(show(w), e), want+"0")
		same(t, "the argument stays", fmt.Sprint(v), before)
		v = w
	}
	four := trust(3, 0, 1, 2, 3)
	hear(message(2, 5, four, "0=1", ""), "2 v 0=1 a  c  h 1")
	hear(message(1, 1, four, "0=2", ""), "2 v 0=1 a  c  h 2")
	hear(message(1, 2, four, "0=1", ""), "3 v 0=1 a 0=1 c  h 2")
	hear(message(1, 3, four, "0=1", "0=1"), "3 v 0=1 a 0=1 c  h 2")
	hear(message(2, 6, four, "", "0=1"), "3 v 0=1 a 0=1 c 0=1 h 2")
	hear(message(2, 7, four, "", "0=2 1=1"), "3 v 0=1 a 0=1 c 0=1 h 2")
	hear(message(3, 7, four, "", "0=2 1=1"), "4 v 0=1 a 0=1 1=1 c 0=1 1=1 h 3")
	same(t, "order", fmt.Sprint(v.Heard[0].Node, v.Heard[1].Node, v.Heard[2].Node), "1 2 3")
	for _, c := range []struct {
		m api.Message
		e api.Errno
	}{
		{message(0, 9, four, "", ""), api.ErrInvalid},
		{message(10, 9, four, "", ""), api.ErrInvalid},
		{message(1, 0, four, "", ""), api.ErrInvalid},
		{message(1, 9, trust(0), "", ""), api.ErrInvalid},
		{message(1, 3, four, "", ""), api.ErrOld},
		{message(1, 2, four, "", ""), api.ErrOld},
	} {
		w, e := voting.Hear(v, c.m)
		same(t, fmt.Sprint(c.m), fmt.Sprint(w, e), fmt.Sprint(api.Voter{}, c.e))
	}
	m := message(5, 1, four, "", "")
	v, _ = voting.Hear(v, m)
	v.Heard[3].Trust.Nodes[0] = 9
	same(t, "no shared memory", m.Trust.Nodes[0], 0)
}

// A node that voted for 0=1 accepts 0=2 if a set that blocks it has accepted this; and the least claim comes first.
func TestSettling(t *testing.T) {
	v, _ := voting.Vote(start(0, three), one("0=1"))
	v, _ = voting.Hear(v, message(1, 1, three, "", "0=2 0=3"))
	v, _ = voting.Hear(v, message(2, 1, three, "", "0=2 0=3"))
	same(t, "blocked", show(v), "3 v 0=1 a 0=2 c 0=2 h 2")
	several, _ := voting.Hear(start(0, three), message(1, 1, three, "", "0=2 1=1 7=3"))
	several, _ = voting.Hear(several, message(2, 1, three, "", "0=2 1=1 7=3"))
	same(t, "several", show(several), "2 v  a 0=2 1=1 7=3 c 0=2 1=1 7=3 h 2")
	// The trust of others counts as they say it now.
	w, _ := voting.Vote(start(0, three), one("0=1"))
	w, _ = voting.Hear(w, message(1, 1, trust(2, 1, 5), "0=1", ""))
	same(t, "needs node 5", show(w), "2 v 0=1 a  c  h 1")
	w, _ = voting.Hear(w, message(1, 2, three, "0=1", ""))
	same(t, "no more", show(w), "3 v 0=1 a 0=1 c  h 1")
	// Its own accepting counts at once, for another claim, too.
	u := start(0, trust(2, 0, 1))
	u.Votes, u.Accepts = of("0=1"), of("1=1")
	u, _ = voting.Hear(u, message(1, 1, trust(1, 1), "0=1", "1=1"))
	same(t, "at once", show(u), "2 v 0=1 a 0=1 1=1 c 1=1 h 1")
	// What a view shows of an accepted claim that is confirmed later.
	u, _ = voting.Hear(u, message(1, 2, trust(1, 1), "0=1", "0=1 1=1"))
	same(t, "confirmed", show(u), "2 v 0=1 a 0=1 1=1 c 0=1 1=1 h 1")
}

// P19.4 and P19.5
func TestDeclare(t *testing.T) {
	v, _ := voting.Vote(start(0, three), one("0=1"))
	got, e := voting.Declare(v, trust(2, 0, 1, 2))
	same(t, "the same", fmt.Sprint(voting.Same(got, v), e), "true 0")
	x := trust(1, 0)
	got, e = voting.Declare(v, x)
	same(t, "another one", fmt.Sprint(show(got), e), "3 v 0=1 a 0=1 c 0=1 h 00")
	same(t, "another one", fmt.Sprint(got.Trust), fmt.Sprint(x))
	got.Trust.Nodes[0] = 5
	same(t, "no shared memory", x.Nodes[0], 0)
	got, e = voting.Declare(v, trust(1, 0, 0))
	same(t, "not valid", fmt.Sprint(got, e), fmt.Sprint(api.Voter{}, api.ErrDuplicate))
	full := full()
	full.Seq = 7
	got, _ = voting.Declare(full, three)
	same(t, "nothing is settled", voting.Same(got, full), true)
}

// The consequences of the chapter.
func TestConsequences(t *testing.T) {
	r := rand.New(rand.NewSource(19))
	random := func() []api.Claim {
		var l []api.Claim
		for range r.Intn(4) {
			l = claims.Put(l, api.Claim{Topic: r.Intn(2), Value: r.Intn(3)})
		}
		return l
	}
	for range 100 {
		v := start(0, trust(1+r.Intn(4), r.Perm(4)...))
		for range 25 {
			w, e := v, api.OK
			switch r.Intn(4) {
			case 0:
				w, e = voting.Vote(v, api.Claim{Topic: r.Intn(2), Value: r.Intn(3)})
			case 1:
				w, e = voting.Declare(v, trust(1+r.Intn(4), r.Perm(4)...))
			default:
				m := api.Message{Node: 1 + r.Intn(3), Seq: 1 + r.Intn(30), Trust: trust(1+r.Intn(4), r.Perm(4)...), Votes: random(), Accepts: random()}
				w, e = voting.Hear(v, m)
				if e == api.OK {
					again, e := voting.Hear(w, m)
					same(t, "nothing new", fmt.Sprint(again, e), fmt.Sprint(api.Voter{}, api.ErrOld))
					same(t, "heard", federated.Plain(m), true)
				}
			}
			if e != api.OK {
				continue
			}
			same(t, "valid", voting.Valid(w), true)
			same(t, "never loses", fmt.Sprint(claims.Union(v.Votes, w.Votes), claims.Union(v.Accepts, w.Accepts), claims.Union(v.Confirms, w.Confirms)), fmt.Sprint(w.Votes, w.Accepts, w.Confirms))
			changed := fmt.Sprint(v.Votes, v.Accepts, v.Trust) != fmt.Sprint(w.Votes, w.Accepts, w.Trust)
			want := v.Seq
			if changed {
				want++
			}
			same(t, "Seq", w.Seq, want)
			v = w
		}
	}
}
