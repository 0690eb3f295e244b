package assembly_test

import (
	"fmt"
	"math"
	"math/rand"
	"testing"

	"trustquorum/api"
	"trustquorum/assembly"
	"trustquorum/claims"
	"trustquorum/configuration"
	"trustquorum/danger"
	"trustquorum/dispensable"
	"trustquorum/intact"
	"trustquorum/nodeset"
	"trustquorum/registry"
	"trustquorum/voting"
)

func same[T comparable](t *testing.T, name string, got, want T) {
	t.Helper()
	if got != want {
		t.Errorf("%s: got %v, want %v", name, got, want)
	}
}

func trust(k int, nodes ...int) api.Trust { return api.Trust{Threshold: k, Nodes: nodes} }

func parse(text string) api.Config {
	c, _, e := configuration.Parse(text)
	if e != api.OK {
		panic(text)
	}
	return c
}

// uniform is a configuration of n members with the threshold k.
func uniform(n, k int) api.Config {
	var c api.Config
	for range n {
		c.Members = append(c.Members, api.Member{Declared: true, Trust: trust(k, nodeset.Nodes(1<<n-1)...)})
	}
	return c
}

func begin(c api.Config, ill int) api.Meeting {
	m, e := assembly.Begin(c, ill)
	if e != api.OK {
		panic(e)
	}
	return m
}

var (
	x = api.Claim{Topic: 0, Value: 1}
	y = api.Claim{Topic: 0, Value: 2}
)

func vote(from int, x api.Claim) api.Play { return api.Play{Kind: api.PlayVote, From: from, Claim: x} }
func send(from, to int) api.Play          { return api.Play{Kind: api.PlaySend, From: from, To: to} }
func stop(from int) api.Play              { return api.Play{Kind: api.PlayStop, From: from} }
func declare(from int, t api.Trust) api.Play {
	return api.Play{Kind: api.PlayDeclare, From: from, Trust: t}
}
func lie(from, to int, m api.Message) api.Play {
	return api.Play{Kind: api.PlayLie, From: from, To: to, Message: m}
}

func said(node, seq int, t api.Trust, votes, accepts []api.Claim) api.Message {
	return api.Message{Node: node, Seq: seq, Trust: t, Votes: votes, Accepts: accepts}
}

// P20.1
func TestBegin(t *testing.T) {
	m, e := assembly.Begin(parse("0: 1 of (1)\n1: 1 of (0)\n2: -"), 6)
	same(t, "Begin", e, api.OK)
	want := api.Meeting{Ill: 6}
	for k, x := range []api.Trust{trust(1, 1), trust(1, 0), trust(1, 2)} {
		v, _ := voting.Start(k, x)
		want.Voters = append(want.Voters, v)
	}
	same(t, "Begin", assembly.Same(m, want), true)
	same(t, "Begin", assembly.Valid(m), true)
	for _, c := range []struct {
		c   api.Config
		ill int
		e   api.Errno
	}{
		{api.Config{Members: make([]api.Member, 11)}, -1, api.ErrLimit},
		{uniform(2, 3), -1, api.ErrThreshold},
		{api.Config{}, 0, api.ErrInvalid},
		{uniform(2, 1), 4, api.ErrInvalid},
		{uniform(2, 1), -1, api.ErrInvalid},
		{uniform(10, 1), 1024, api.ErrInvalid},
		{parse("0: -"), 2, api.ErrInvalid},
		{parse("0: -\n1: 1 of (1)"), 2, api.ErrMissing},
	} {
		m, e := assembly.Begin(c.c, c.ill)
		same(t, "Begin", fmt.Sprint(m, e), fmt.Sprint(api.Meeting{}, c.e))
		m, codes, e := assembly.Run(c.c, c.ill, make([]api.Play, 401))
		same(t, "Run", fmt.Sprint(m, codes, e), fmt.Sprint(api.Meeting{}, []int{}, c.e))
		trusts, e := assembly.Trusts(c.c, c.ill, make([]api.Play, 401))
		same(t, "Trusts", fmt.Sprint(trusts, e), fmt.Sprint([]int{}, c.e))
		l, e := assembly.Split(c.c, c.ill)
		same(t, "Split", fmt.Sprint(l, e), fmt.Sprint([]int{}, c.e))
	}
}

// broken has meetings that are not valid.
func broken() map[string]api.Meeting {
	change := func(f func(*api.Meeting)) api.Meeting {
		m := begin(uniform(3, 2), 4)
		m, _ = assembly.Step(m, send(0, 1))
		f(&m)
		return m
	}
	return map[string]api.Meeting{
		"no voters":             {},
		"eleven":                {Voters: make([]api.Voter, 11)},
		"a voter":               change(func(m *api.Meeting) { m.Voters[2].Seq = 0 }),
		"another node":          change(func(m *api.Meeting) { m.Voters[0].Node = 2 }),
		"Ill":                   change(func(m *api.Meeting) { m.Ill = 8 }),
		"negative":              change(func(m *api.Meeting) { m.Ill = -1 }),
		"Stopped":               change(func(m *api.Meeting) { m.Stopped = 8 }),
		"least number":          change(func(m *api.Meeting) { m.Stopped = math.MinInt }),
		"both":                  change(func(m *api.Meeting) { m.Stopped = 5 }),
		"Trust":                 change(func(m *api.Meeting) { m.Voters[0].Trust = trust(1, 3) }),
		"Trust of a message":    change(func(m *api.Meeting) { m.Voters[1].Heard[0].Trust = trust(1, 3) }),
		"message of no member":  change(func(m *api.Meeting) { m.Voters[1].Heard[0].Node = 3 }),
		"message of the member": change(func(m *api.Meeting) { m.Voters[1].Heard[0].Node = 1 }),
	}
}

// P20.1
func TestValid(t *testing.T) {
	m := begin(uniform(3, 2), 4)
	m.Stopped = 3
	same(t, "valid", assembly.Valid(m), true)
	same(t, "one member", assembly.Valid(begin(uniform(1, 1), 0)), true)
	same(t, "ten members", assembly.Valid(begin(uniform(10, 1), 1)), true)
	for name, m := range broken() {
		same(t, name, assembly.Valid(m), false)
		got, e := assembly.Step(m, stop(0))
		same(t, name, fmt.Sprint(got, e), fmt.Sprint(api.Meeting{}, api.ErrInvalid))
		got, e = assembly.Calm(m)
		same(t, name, fmt.Sprint(got, e), fmt.Sprint(api.Meeting{}, api.ErrInvalid))
		a, b, ok := assembly.Contradiction(m)
		same(t, name, fmt.Sprint(a, b, ok), "0 0 false")
	}
	base := begin(uniform(3, 2), 4)
	other := begin(uniform(3, 2), 4)
	same(t, "Same", assembly.Same(base, other), true)
	other.Ill = 2
	same(t, "Ill", assembly.Same(base, other), false)
	other.Ill, other.Stopped = 4, 1
	same(t, "Stopped", assembly.Same(base, other), false)
	same(t, "Voters", assembly.Same(base, begin(uniform(3, 1), 4)), false)
}

// P20.2
func TestStep(t *testing.T) {
	m := begin(uniform(4, 3), 8)
	m.Stopped = 4
	two := trust(2, 0, 1)
	for name, c := range map[string]struct {
		p api.Play
		e api.Errno
	}{
		"no kind":                 {api.Play{}, api.ErrInvalid},
		"another kind":            {api.Play{Kind: 6}, api.ErrInvalid},
		"no member":               {vote(4, x), api.ErrInvalid},
		"negative":                {stop(-1), api.ErrInvalid},
		"To is no member":         {send(0, 4), api.ErrInvalid},
		"To is negative":          {send(0, -1), api.ErrInvalid},
		"To is From":              {send(0, 0), api.ErrInvalid},
		"lie to itself":           {lie(3, 3, said(3, 1, two, nil, nil)), api.ErrInvalid},
		"To does not matter":      {api.Play{Kind: api.PlayVote, From: 0, To: 99, Claim: x}, api.OK},
		"vote":                    {vote(0, x), api.OK},
		"vote, ill":               {vote(3, x), api.ErrState},
		"vote, stopped":           {vote(2, x), api.ErrState},
		"vote for no claim":       {vote(0, api.Claim{Topic: 8}), api.ErrInvalid},
		"send":                    {send(0, 1), api.OK},
		"send, stopped":           {send(2, 1), api.OK},
		"send, ill":               {send(3, 1), api.ErrState},
		"send to ill":             {send(0, 3), api.ErrState},
		"send to stopped":         {send(0, 2), api.ErrState},
		"declare":                 {declare(0, two), api.OK},
		"declare, ill":            {declare(3, trust(0)), api.ErrState},
		"declare, stopped":        {declare(2, trust(0)), api.ErrState},
		"declare what is wrong":   {declare(0, trust(0, 7)), api.ErrThreshold},
		"declare another node":    {declare(0, trust(1, 7)), api.ErrNode},
		"stop":                    {stop(0), api.OK},
		"stop, ill":               {stop(3), api.ErrState},
		"stop, stopped":           {stop(2), api.ErrState},
		"lie":                     {lie(3, 1, said(3, 1, two, nil, nil)), api.OK},
		"lie, not ill":            {lie(0, 1, said(0, 1, two, nil, nil)), api.ErrState},
		"lie to stopped":          {lie(3, 2, said(0, 1, two, nil, nil)), api.ErrState},
		"lie of another one":      {lie(3, 1, said(0, 0, two, nil, nil)), api.ErrTag},
		"lie that is not plain":   {lie(3, 1, said(3, 0, trust(1, 7), nil, nil)), api.ErrInvalid},
		"lie with another member": {lie(3, 1, said(3, 1, trust(1, 7), nil, nil)), api.ErrNode},
	} {
		before := fmt.Sprint(m)
		got, e := assembly.Step(m, c.p)
		same(t, name, e, c.e)
		same(t, "the argument stays", fmt.Sprint(m), before)
		if c.e == api.OK {
			same(t, name, assembly.Valid(got), true)
		} else {
			same(t, name, fmt.Sprint(got), fmt.Sprint(api.Meeting{}))
		}
	}
	step := func(p api.Play) {
		t.Helper()
		next, e := assembly.Step(m, p)
		same(t, fmt.Sprint(p), e, api.OK)
		m = next
	}
	step(vote(0, x))
	same(t, "vote", claims.Text(m.Voters[0].Votes), "0=1")
	_, e := assembly.Step(m, vote(0, y))
	same(t, "conflict", e, api.ErrConflict)
	step(send(0, 1))
	same(t, "send", fmt.Sprint(m.Voters[1].Heard), fmt.Sprint([]api.Message{voting.Say(m.Voters[0])}))
	_, e = assembly.Step(m, send(0, 1))
	same(t, "old", e, api.ErrOld)
	step(lie(3, 0, said(3, 7, two, []api.Claim{y}, nil)))
	same(t, "lie", fmt.Sprint(m.Voters[0].Heard), fmt.Sprint([]api.Message{said(3, 7, two, []api.Claim{y}, nil)}))
	_, e = assembly.Step(m, lie(3, 0, said(3, 7, two, []api.Claim{y}, nil)))
	same(t, "old lie", e, api.ErrOld)
	step(declare(1, two))
	same(t, "declare", fmt.Sprint(m.Voters[1].Trust), fmt.Sprint(two))
	step(stop(1))
	same(t, "stop", m.Stopped, 6)
}

// P20.3
func TestRun(t *testing.T) {
	l := []api.Play{vote(0, x), send(0, 1), send(0, 1), vote(1, x), send(1, 0), {}, send(0, 1), send(1, 0), vote(2, x), declare(0, trust(1, 3)), declare(0, trust(1, 0)), declare(0, trust(1, 0)), declare(1, trust(2, 0, 1, 2))}
	c := uniform(3, 2)
	m, codes, e := assembly.Run(c, 4, l)
	same(t, "Run", fmt.Sprint(codes, e), "[0 0 9 0 0 1 0 9 13 5 0 0 0] 0")
	same(t, "both confirm", fmt.Sprint(m.Voters[0].Confirms, m.Voters[1].Confirms), fmt.Sprint([]api.Claim{x}, []api.Claim{x}))
	want := begin(c, 4)
	for _, p := range l {
		if next, e := assembly.Step(want, p); e == api.OK {
			want = next
		}
	}
	same(t, "Run", assembly.Same(m, want), true)
	trusts, e := assembly.Trusts(c, 4, l)
	all := trust(2, 0, 1, 2)
	same(t, "Trusts", fmt.Sprint(trusts, e), fmt.Sprint([][]api.Trust{{all, trust(1, 0), trust(1, 0)}, {all, all}, {all}}, 0))
	trusts, _ = assembly.Trusts(parse("0: 1 of (0)\n1: -"), 2, []api.Play{declare(1, trust(1, 0))})
	same(t, "Trusts", fmt.Sprint(trusts), fmt.Sprint([][]api.Trust{{trust(1, 0)}, {}}))
	_, codes, e = assembly.Run(c, 0, make([]api.Play, 400))
	same(t, "400", fmt.Sprint(len(codes), e), "400 0")
	m, codes, e = assembly.Run(c, 0, make([]api.Play, 401))
	same(t, "401", fmt.Sprint(m, codes, e), fmt.Sprint(api.Meeting{}, []int{}, api.ErrLimit))
	_, e = assembly.Trusts(c, 0, make([]api.Play, 401))
	same(t, "401", e, api.ErrLimit)
	m, codes, e = assembly.Run(c, 0, nil)
	same(t, "none", fmt.Sprint(assembly.Same(m, begin(c, 0)), codes, e), "true [] 0")
}

// P20.4
func TestCalm(t *testing.T) {
	m, _, _ := assembly.Run(uniform(4, 3), 8, []api.Play{vote(0, x), vote(1, x), vote(2, x), stop(2)})
	calm, e := assembly.Calm(m)
	same(t, "Calm", e, api.OK)
	for k := range 2 {
		same(t, "accepts by votes", claims.Text(calm.Voters[k].Accepts), "0=1")
		same(t, "a node that stopped does not accept", claims.Text(calm.Voters[k].Confirms), "")
		same(t, "heard", len(calm.Voters[k].Heard), 2)
	}
	same(t, "the stopped one hears nothing", len(calm.Voters[2].Heard), 0)
	same(t, "the ill one hears nothing", len(calm.Voters[3].Heard), 0)
	again, _ := assembly.Calm(calm)
	same(t, "Calm", assembly.Same(again, calm), true)
	m, _, _ = assembly.Run(uniform(4, 3), 8, []api.Play{vote(0, x), vote(1, x), vote(2, x)})
	m, _ = assembly.Calm(m)
	same(t, "all confirm", claims.Text(m.Voters[0].Confirms)+claims.Text(m.Voters[1].Confirms)+claims.Text(m.Voters[2].Confirms), "0=10=10=1")
	m = begin(uniform(3, 2), 0)
	m, _ = assembly.Step(m, vote(0, x))
	m, _ = assembly.Step(m, vote(1, x))
	m.Voters[1].Seq = api.MaxTurn
	calm, e = assembly.Calm(m)
	same(t, "the greatest number", fmt.Sprint(e, assembly.Valid(calm), calm.Voters[1].Seq), fmt.Sprint(0, false, api.MaxTurn+1))
	m.Voters[1].Seq = api.MaxTurn - 1
	last, _ := assembly.Calm(m)
	same(t, "the last number", fmt.Sprint(assembly.Valid(last), last.Voters[1].Seq, len(last.Voters[2].Heard), len(last.Voters[2].Confirms)), fmt.Sprint(true, api.MaxTurn, 2, 1))
	// What came behind the step with which the meeting is not valid any more changes nothing.
	same(t, "no further step", len(calm.Voters[2].Heard), 0)
}

// P20.5
func TestContradiction(t *testing.T) {
	self := parse("0: 1 of (0)\n1: 1 of (1)\n2: 1 of (2)\n3: 1 of (3)")
	for _, c := range []struct {
		ill  int
		l    []api.Play
		a, b int
		ok   bool
	}{
		{0, nil, 0, 0, false},
		{0, []api.Play{vote(0, x), vote(1, x)}, 0, 0, false},
		{0, []api.Play{vote(0, x), vote(3, y)}, 0, 3, true},
		{0, []api.Play{vote(3, x), vote(1, y), vote(2, y)}, 1, 3, true},
		{0, []api.Play{vote(2, x), vote(1, y), vote(3, y)}, 1, 2, true},
		{0, []api.Play{vote(0, x), vote(1, api.Claim{Topic: 1}), vote(2, y), stop(2)}, 0, 2, true},
		{8, []api.Play{vote(0, x), vote(3, y)}, 0, 0, false},
	} {
		m, _, _ := assembly.Run(self, c.ill, c.l)
		a, b, ok := assembly.Contradiction(m)
		same(t, fmt.Sprint(c.l), fmt.Sprint(a, b, ok), fmt.Sprint(c.a, c.b, c.ok))
	}
	m := begin(self, 8)
	for k, z := range []api.Claim{x, x, x, y} {
		m.Voters[k].Accepts, m.Voters[k].Confirms = []api.Claim{z}, []api.Claim{z}
	}
	_, _, ok := assembly.Contradiction(m)
	same(t, "ill", ok, false)
}

// random makes a configuration of n members.
func random(r *rand.Rand, n int) api.Config {
	var c api.Config
	for range n {
		x := trust(1, r.Perm(n)[:n/2+r.Intn(n-n/2)+1-n%2/2]...)
		x.Threshold = len(x.Nodes)/2 + r.Intn(len(x.Nodes)-len(x.Nodes)/2)
		x.Threshold = max(1, x.Threshold)
		c.Members = append(c.Members, api.Member{Declared: true, Trust: x})
	}
	return c
}

// P20.6
func TestSplit(t *testing.T) {
	r := rand.New(rand.NewSource(20))
	check := func(c api.Config, ill int) bool {
		splits, _ := danger.Splits(c, ill)
		l, e := assembly.Split(c, ill)
		if !splits {
			same(t, "Split", fmt.Sprint(l, e), fmt.Sprint([]int{}, api.ErrNone))
			return false
		}
		same(t, "Split", e, api.OK)
		same(t, "steps", len(l) <= api.MaxHeard, true)
		m, codes, _ := assembly.Run(c, ill, l)
		for _, code := range codes {
			same(t, "no errors", code, api.OK)
		}
		_, _, ok := assembly.Contradiction(m)
		same(t, configuration.Text(c)+fmt.Sprint(ill), ok, true)
		return true
	}
	same(t, "two liars", check(uniform(4, 3), 3), true)
	same(t, "none", check(uniform(4, 3), 1), false)
	same(t, "undeclared liars", check(parse("0: 2 of (0, 2)\n1: 2 of (1, 2)\n2: -"), 4), true)
	same(t, "ten", check(uniform(10, 5), 0), true)
	same(t, "one and nine", check(parse("0: 1 of (0)\n"+configuration.Text(uniform(10, 9))[len("0: 9 of (0, 1, 2, 3, 4, 5, 6, 7, 8, 9)\n"):]), 0), true)
	same(t, "ten, one alone", check(uniform(10, 1), 0), true)
	same(t, "eight and a liar", check(uniform(9, 5), 1), true)
	n := 0
	for range 150 {
		size := 2 + r.Intn(5)
		if check(random(r, size), r.Intn(1<<size)) {
			n++
		}
	}
	same(t, "some split", n > 15 && n < 140, true)
}

// play makes a step, which may have errors.
func play(r *rand.Rand, n, ill int) api.Play {
	claim := api.Claim{Topic: r.Intn(2), Value: r.Intn(8) / 7}
	switch k := r.Intn(80); {
	case k < 24:
		return vote(r.Intn(n), claim)
	case k == 24:
		return stop(r.Intn(n))
	case k < 26:
		x := trust(1, r.Perm(n)[:1+r.Intn(n)]...)
		x.Threshold = max(1, len(x.Nodes)-r.Intn(2))
		return declare(r.Intn(n), x)
	case k < 36 && ill != 0:
		liars := nodeset.Nodes(ill)
		liar := liars[r.Intn(len(liars))]
		return lie(liar, r.Intn(n), said(liar, 1+r.Intn(50), trust(1, liar), []api.Claim{claim}, []api.Claim{claim}))
	}
	return send(r.Intn(n), r.Intn(n))
}

// The consequences of the chapter.
func TestConsequences(t *testing.T) {
	r := rand.New(rand.NewSource(21))
	judged, confirmed := 0, 0
	for range 120 {
		n := 3 + r.Intn(2)
		c := random(r, n)
		if r.Intn(4) > 0 {
			c = uniform(n, n-1)
		}
		ill := 0
		if r.Intn(2) == 0 {
			ill = 1 << r.Intn(n)
		}
		var l []api.Play
		for range 60 {
			l = append(l, play(r, n, ill))
		}
		m, _, _ := assembly.Run(c, ill, l)
		trusts, _ := assembly.Trusts(c, ill, l)
		low, e1 := registry.Low(trusts)
		high, e2 := registry.High(trusts)
		if e1 != api.OK || e2 != api.OK || dispensable.Valid(low, high) != api.OK {
			continue
		}
		judged++
		calm, _ := assembly.Calm(m)
		if despite, _ := dispensable.Intersects(low, ill); despite {
			for _, x := range []api.Meeting{m, calm} {
				_, _, ok := assembly.Contradiction(x)
				same(t, "no contradiction", ok, false)
			}
		}
		good, _ := intact.Of(low, high, ill)
		for _, a := range nodeset.Nodes(good) {
			for _, b := range nodeset.Nodes(good) {
				same(t, "intact ones accept", claims.Consistent(claims.Union(calm.Voters[a].Accepts, calm.Voters[b].Accepts)), true)
			}
		}
		rest, _ := intact.Of(low, high, ill|m.Stopped)
		for _, a := range nodeset.Nodes(rest) {
			confirmed += len(calm.Voters[a].Confirms)
			for _, b := range nodeset.Nodes(rest) {
				same(t, "what one confirms all confirm", claims.Text(calm.Voters[a].Confirms), claims.Text(calm.Voters[b].Confirms))
			}
		}
	}
	same(t, "judged", judged > 50 && confirmed > 50, true)
	for s := range 16 {
		var l []api.Play
		for _, k := range nodeset.Nodes(s) {
			l = append(l, stop(k))
		}
		for k := range 4 {
			l = append(l, vote(k, x))
		}
		m, _, _ := assembly.Run(uniform(4, 3), 0, l)
		m, _ = assembly.Calm(m)
		halts, _ := danger.Halts(uniform(4, 3), s)
		n := 0
		for k := range 4 {
			n += len(m.Voters[k].Confirms)
		}
		same(t, "halts", n == 0, halts)
	}
}
