package laboratory_test

import (
	"fmt"
	"math"
	"math/rand"
	"strings"
	"testing"

	"trustquorum/analyser"
	"trustquorum/api"
	"trustquorum/configuration"
	"trustquorum/laboratory"
	"trustquorum/nodeset"
	"trustquorum/scenario"
)

func same[T comparable](t *testing.T, name string, got, want T) {
	t.Helper()
	if got != want {
		t.Errorf("%s: got %v, want %v", name, got, want)
	}
}

func parse(text string) api.Config {
	c, _, e := configuration.Parse(text)
	if e != api.OK {
		panic(text)
	}
	return c
}

// uniform is a configuration of n members with the threshold k.
func uniform(n, k int) api.Config {
	var c api.Config
	for range n {
		c.Members = append(c.Members, api.Member{Declared: true, Trust: api.Trust{Threshold: k, Nodes: nodeset.Nodes(1<<n - 1)}})
	}
	return c
}

var word20 = strings.Repeat("z9", 10)

// lines are steps with their lines.
func lines() map[string]api.Step {
	inner := api.Trust{Threshold: 2, Nodes: []int{0, 9}, Inner: []api.Trust{{Threshold: 1, Nodes: []int{3}}}}
	return map[string]api.Step{
		"propose 0 1 a":                    {Kind: api.StepPropose, Slot: 1, Value: "a"},
		"propose 9 1000 " + word20:         {Kind: api.StepPropose, Node: 9, Slot: 1000, Value: word20},
		"prefer 0 1 a":                     {Kind: api.StepPrefer, Slot: 1, Value: "a"},
		"prefer 3 7 007":                   {Kind: api.StepPrefer, Node: 3, Slot: 7, Value: "007"},
		"tick 1":                           {Kind: api.StepTick, Count: 1},
		"tick 1000":                        {Kind: api.StepTick, Count: 1000},
		"stop 9":                           {Kind: api.StepStop, Node: 9},
		"delay 0 9 1":                      {Kind: api.StepDelay, To: 9, Count: 1},
		"delay 4 4 1000":                   {Kind: api.StepDelay, Node: 4, To: 4, Count: 1000},
		"part 1":                           {Kind: api.StepPart, Parts: []int{1}},
		"part 1023 3 3":                    {Kind: api.StepPart, Parts: []int{1023, 3, 3}},
		"declare 5 2 of (0, 9, 1 of (3))":  {Kind: api.StepDeclare, Node: 5, Trust: inner},
		"lie 3 1 7 x":                      laboratory.Lie(3, 1, 7, "x"),
		"lie 0 0 1000 " + word20:           laboratory.Lie(0, 0, 1000, word20),
		"declare 0 1 of (1 of (1 of (0)))": {Kind: api.StepDeclare, Trust: api.Trust{Threshold: 1, Inner: []api.Trust{{Threshold: 1, Inner: []api.Trust{{Threshold: 1, Nodes: []int{0}}}}}}},
	}
}

// P45.1
func TestWord(t *testing.T) {
	for _, w := range []api.Value{"a", "z", "0", "9", "abc123", word20} {
		same(t, w, laboratory.Word(w), true)
	}
	for _, w := range []api.Value{"", word20 + "a", "A", "a b", " ", "-", "a\n", "ä", "\xff", "`", "{", "/", ":", "\x00"} {
		same(t, w, laboratory.Word(w), false)
	}
	want := api.Step{Kind: api.StepShow, Node: 3, To: 1, Letter: api.Letter{Kind: api.LetterEnvelope, Slot: 7, Envelope: api.Envelope{Node: 3, Slot: 7, Seq: 1, Trust: api.Trust{Threshold: 1, Nodes: []int{3}}, Kind: api.KindExternal, Ballot: api.Ballot{Counter: 1, Value: "x"}, Low: 1, High: 1}}}
	same(t, "Lie", fmt.Sprint(laboratory.Lie(3, 1, 7, "x")), fmt.Sprint(want))
	odd := laboratory.Lie(-3, 99, -7, "")
	same(t, "Lie", fmt.Sprint(odd.Node, odd.To, odd.Letter.Slot, odd.Letter.Envelope.Trust), fmt.Sprint(-3, 99, -7, api.Trust{Threshold: 1, Nodes: []int{-3}}))
}

// broken are steps that have no line.
func broken() map[string]api.Step {
	l := map[string]api.Step{
		"zero": {}, "kind": {Kind: 9}, "negative kind": {Kind: -1},
		"propose, node": {Kind: api.StepPropose, Node: 10, Slot: 1, Value: "a"}, "propose, negative": {Kind: api.StepPropose, Node: -1, Slot: 1, Value: "a"}, "propose, slot": {Kind: api.StepPropose, Value: "a"}, "propose, great slot": {Kind: api.StepPropose, Slot: 1001, Value: "a"}, "propose, no word": {Kind: api.StepPropose, Slot: 1, Value: "A"}, "propose, empty": {Kind: api.StepPropose, Slot: 1},
		"prefer, node": {Kind: api.StepPrefer, Node: 10, Slot: 1, Value: "a"}, "prefer, slot": {Kind: api.StepPrefer, Value: "a"}, "prefer, no word": {Kind: api.StepPrefer, Slot: 1, Value: "a b"},
		"tick, 0": {Kind: api.StepTick}, "tick, negative": {Kind: api.StepTick, Count: -1}, "tick, great": {Kind: api.StepTick, Count: 1001},
		"stop, node": {Kind: api.StepStop, Node: 10}, "stop, negative": {Kind: api.StepStop, Node: -1},
		"delay, node": {Kind: api.StepDelay, Node: 10, Count: 1}, "delay, to": {Kind: api.StepDelay, To: 10, Count: 1}, "delay, 0": {Kind: api.StepDelay}, "delay, great": {Kind: api.StepDelay, Count: 1001},
		"part, none": {Kind: api.StepPart}, "part, empty": {Kind: api.StepPart, Parts: []int{1, 0}}, "part, great": {Kind: api.StepPart, Parts: []int{1024}}, "part, negative": {Kind: api.StepPart, Parts: []int{-1}},
		"declare, nothing": {Kind: api.StepDeclare}, "declare, not valid": {Kind: api.StepDeclare, Trust: api.Trust{Threshold: 2, Nodes: []int{0}}}, "declare, node": {Kind: api.StepDeclare, Node: 10, Trust: api.Trust{Threshold: 1, Nodes: []int{0}}},
		"lie, node": laboratory.Lie(10, 1, 1, "a"), "lie, to": laboratory.Lie(1, 10, 1, "a"), "lie, slot": laboratory.Lie(1, 2, 0, "a"), "lie, great slot": laboratory.Lie(1, 2, 1001, "a"), "lie, no word": laboratory.Lie(1, 2, 1, ""),
	}
	for name, f := range map[string]func(*api.Step){
		"Letter Slot":  func(s *api.Step) { s.Letter.Slot = 8 },
		"Letter Kind":  func(s *api.Step) { s.Letter.Kind = api.LetterNomination },
		"nomination":   func(s *api.Step) { s.Letter.Nomination.Votes = []api.Value{"a"} },
		"nomination 2": func(s *api.Step) { s.Letter.Nomination.Node = 3 },
		"Node":         func(s *api.Step) { s.Letter.Envelope.Node = 2 },
		"Slot":         func(s *api.Step) { s.Letter.Envelope.Slot = 8 },
		"Seq":          func(s *api.Step) { s.Letter.Envelope.Seq = 2 },
		"Trust":        func(s *api.Step) { s.Letter.Envelope.Trust.Nodes = []int{2} },
		"Kind":         func(s *api.Step) { s.Letter.Envelope.Kind = api.KindCommit },
		"Counter":      func(s *api.Step) { s.Letter.Envelope.Ballot.Counter = 2 },
		"Prepared":     func(s *api.Step) { s.Letter.Envelope.Prepared.Counter = 1 },
		"Prime":        func(s *api.Step) { s.Letter.Envelope.Prime.Counter = 1 },
		"Low":          func(s *api.Step) { s.Letter.Envelope.Low = 0 },
		"High":         func(s *api.Step) { s.Letter.Envelope.High = 2 },
	} {
		s := laboratory.Lie(3, 1, 7, "x")
		f(&s)
		l["lie, "+name] = s
	}
	fields := map[string]func(*api.Step){
		"Node": func(s *api.Step) { s.Node = 1 }, "To": func(s *api.Step) { s.To = 1 }, "Slot": func(s *api.Step) { s.Slot = 1 }, "Count": func(s *api.Step) { s.Count = 1 }, "Value": func(s *api.Step) { s.Value = "a" },
		"Trust": func(s *api.Step) { s.Trust = api.Trust{Threshold: 1, Nodes: []int{0}} }, "Letter": func(s *api.Step) { s.Letter.Kind = 1 }, "Parts": func(s *api.Step) { s.Parts = []int{1} },
	}
	has := map[string]string{"propose": "Node Slot Value", "prefer": "Node Slot Value", "tick": "Count", "stop": "Node", "delay": "Node To Count", "part": "Parts", "declare": "Node Trust", "lie": "Node To Letter"}
	for text, s := range lines() {
		for field, f := range fields {
			if !strings.Contains(has[strings.Fields(text)[0]], field) {
				x := s
				f(&x)
				l[text+" with "+field] = x
			}
		}
	}
	return l
}

// P45.1 and P45.2
func TestStep(t *testing.T) {
	for text, s := range lines() {
		got, ok := laboratory.Step(s)
		same(t, text, fmt.Sprint(got, ok), text+"true")
		all, e := laboratory.Format([]api.Step{s, s})
		same(t, text, fmt.Sprint(all, e), text+"\n"+text+"\n0")
		back, n, e := laboratory.Parse(text + "\n" + text + "\n")
		same(t, text, fmt.Sprint(back, n, e), fmt.Sprint([]api.Step{s, s}, 0, 0))
	}
	for name, s := range broken() {
		got, ok := laboratory.Step(s)
		same(t, name, fmt.Sprint(got, ok), "false")
		all, e := laboratory.Format([]api.Step{{Kind: api.StepTick, Count: 1}, s})
		same(t, name, fmt.Sprint(all, e), fmt.Sprint("", api.ErrScript))
	}
	many := make([]api.Step, 301)
	text, e := laboratory.Format(many)
	same(t, "too many", fmt.Sprint(text, e), fmt.Sprint("", api.ErrLimit))
	for i := range many {
		many[i] = api.Step{Kind: api.StepTick, Count: 1}
	}
	text, e = laboratory.Format(many[:300])
	same(t, "300", fmt.Sprint(len(text), e), "2100 0")
	text, e = laboratory.Format(nil)
	same(t, "empty", fmt.Sprint(text, e), "0")
}

// P45.2
func TestParse(t *testing.T) {
	for _, c := range []struct {
		text string
		line int
		e    api.Errno
	}{
		{"", 0, api.OK},
		{strings.Repeat("tick 1\n", 300), 0, api.OK},
		{strings.Repeat("tick 1\n", 301), 0, api.ErrLimit},
		{strings.Repeat("\n", 301), 0, api.ErrLimit},
		{strings.Repeat("x", 20001), 0, api.ErrLimit},
		{strings.Repeat("x", 20000), 1, api.ErrSyntax},
		{strings.Repeat("tick 1\n", 300) + "x", 301, api.ErrSyntax},
		{"tick 1", 1, api.ErrSyntax},
		{"tick 1\ntick 2", 2, api.ErrSyntax},
		{"tick 1\n\n", 2, api.ErrSyntax},
		{"\n", 1, api.ErrSyntax},
		{"tick 1\r\n", 1, api.ErrSyntax},
		{"x\ntick 1", 1, api.ErrSyntax},
		{" tick 1\n", 1, api.ErrSyntax},
		{"tick 1 \n", 1, api.ErrSyntax},
		{"tick  1\n", 1, api.ErrSyntax},
		{"tick\t1\n", 1, api.ErrSyntax},
		{"tick 01\n", 1, api.ErrSyntax},
		{"tick +1\n", 1, api.ErrSyntax},
		{"tick 0\n", 1, api.ErrSyntax},
		{"tick -1\n", 1, api.ErrSyntax},
		{"tick 1001\n", 1, api.ErrSyntax},
		{"tick a\n", 1, api.ErrSyntax},
		{"tick\n", 1, api.ErrSyntax},
		{"tick 1 1\n", 1, api.ErrSyntax},
		{"Tick 1\n", 1, api.ErrSyntax},
		{"tick 99999999999999999999\n", 1, api.ErrSyntax},
		{"propose 0 1\n", 1, api.ErrSyntax},
		{"propose 0 1 A\n", 1, api.ErrSyntax},
		{"propose 10 1 a\n", 1, api.ErrSyntax},
		{"propose 00 1 a\n", 1, api.ErrSyntax},
		{"prefer 0 0 a\n", 1, api.ErrSyntax},
		{"prefer 0 1 a b\n", 1, api.ErrSyntax},
		{"prefer 0 1 " + word20 + "a\n", 1, api.ErrSyntax},
		{"stop\n", 1, api.ErrSyntax},
		{"stop 10\n", 1, api.ErrSyntax},
		{"delay 0 1\n", 1, api.ErrSyntax},
		{"delay 0 10 1\n", 1, api.ErrSyntax},
		{"part\n", 1, api.ErrSyntax},
		{"part \n", 1, api.ErrSyntax},
		{"part 0\n", 1, api.ErrSyntax},
		{"part 1 1024\n", 1, api.ErrSyntax},
		{"part 1 a\n", 1, api.ErrSyntax},
		{"declare 0\n", 1, api.ErrSyntax},
		{"declare 0 1of(0)\n", 1, api.ErrSyntax},
		{"declare 0 1 of (0,1)\n", 1, api.ErrSyntax},
		{"declare 0 2 of (0)\n", 1, api.ErrSyntax},
		{"declare 0 ?\n", 1, api.ErrSyntax},
		{"declare 10 1 of (0)\n", 1, api.ErrSyntax},
		{"lie 0 1 1\n", 1, api.ErrSyntax},
		{"lie 0 1 0 a\n", 1, api.ErrSyntax},
		{"lie 0 1 1 \n", 1, api.ErrSyntax},
		{"\xff\n", 1, api.ErrSyntax},
	} {
		l, n, e := laboratory.Parse(c.text)
		same(t, c.text, fmt.Sprint(n, e), fmt.Sprint(c.line, c.e))
		if e != api.OK {
			same(t, c.text, len(l), 0)
		} else {
			same(t, c.text, len(l), strings.Count(c.text, "\n"))
		}
	}
}

// script reads a script.
func script(t *testing.T, text string) []api.Step {
	t.Helper()
	l, _, e := laboratory.Parse(strings.ReplaceAll(text, "; ", "\n") + "\n")
	same(t, text, e, api.OK)
	return l
}

// P45.3 and P45.4
func TestReport(t *testing.T) {
	for _, c := range []struct {
		c    api.Config
		ill  int
		text string
		want string
	}{
		{uniform(4, 3), 0, "prefer 0 1 a; prefer 1 1 a; prefer 2 1 a; prefer 3 1 a; tick 12", "time 12; decided 0 1 a; decided 1 1 a; decided 2 1 a; decided 3 1 a; intact 15; safe; settled; "},
		{uniform(4, 3), 0, "part 7 8; prefer 0 1 a; prefer 1 1 a; prefer 2 1 a; tick 12", "time 12; decided 0 1 a; decided 1 1 a; decided 2 1 a; intact 15; safe; settled; "},
		{uniform(4, 3), 0, "part 7 8; prefer 0 1 a; prefer 1 1 a; prefer 2 1 a; tick 163", "time 163; decided 0 1 a; decided 1 1 a; decided 2 1 a; intact 15; safe; waiting; "},
		{uniform(4, 3), 1, "stop 1", "time 0; intact 0; safe; settled; "},
		{uniform(4, 3), 1, "tick 1", "time 1; intact 14; safe; settled; "},
		{uniform(4, 3), 0, "propose 3 2 x; propose 3 3 x; propose 3 4 x; propose 3 5 x; propose 3 6 x; propose 3 7 x; propose 3 8 x; propose 3 9 x; part 7 8; prefer 0 1 a; prefer 1 1 a; prefer 2 1 a; tick 12", "time 12; decided 0 1 a; decided 1 1 a; decided 2 1 a; intact 15; safe; waiting; "},
		{uniform(8, 5), 0, "tick 1", "time 1; intact unknown; unsafe; waiting; "},
		{uniform(2, 1), 0, "prefer 0 3 z; prefer 0 1 a; prefer 1 1 b", "time 0; decided 0 1 a; decided 0 3 z; decided 1 1 b; intact 0; safe; settled; "},
		{uniform(4, 3), 0, "tick 162", "time 162; intact 15; safe; settled; "},
		{uniform(4, 3), 0, "tick 163", "time 163; intact 15; safe; waiting; "},
	} {
		l := script(t, c.text)
		w, _, e := scenario.Run(c.c, c.ill, l)
		same(t, c.text, e, api.OK)
		all := strings.ReplaceAll(c.want, "; ", "\n")
		summary, e := laboratory.Summary(c.c, c.ill, l)
		same(t, c.text, fmt.Sprint(summary, e), all+"0")
		last := strings.LastIndex(strings.TrimSuffix(all, "\n"), "\n")
		same(t, c.text, laboratory.Report(w), all[:last+1])
	}
	same(t, "not right", laboratory.Report(api.World{}), "")
	for _, c := range []struct {
		ill  int
		text string
		e    api.Errno
	}{{16, "tick 1", api.ErrInvalid}, {0, "tick 201", api.ErrScript}, {0, "tick 200; tick 1", api.ErrLimit}, {0, "stop 4", api.ErrNode}} {
		text, e := laboratory.Summary(uniform(4, 3), c.ill, script(t, c.text))
		same(t, c.text, fmt.Sprint(text, e), fmt.Sprint("", c.e))
	}
	_, e := laboratory.Summary(uniform(4, 3), 0, make([]api.Step, 301))
	same(t, "too many", e, api.ErrLimit)
	// A world that no run leads to.
	w, _, _ := scenario.Run(uniform(2, 2), 0, script(t, "prefer 0 1 a; prefer 1 1 a; tick 12"))
	other, _, _ := scenario.Run(uniform(2, 2), 0, script(t, "prefer 0 1 b; prefer 1 1 b; tick 12"))
	w.Nodes[1] = other.Nodes[1]
	same(t, "unsafe", laboratory.Report(w), "time 12\ndecided 0 1 a\ndecided 1 1 b\nintact 3\nunsafe\n")
}

// P45.5
func TestCompare(t *testing.T) {
	for _, c := range []struct {
		c     api.Config
		liars int
		ok    bool
		e     api.Errno
	}{
		{uniform(3, 2), 0, true, api.OK},
		{uniform(3, 2), 1, true, api.OK},
		{uniform(4, 2), 0, true, api.OK},
		{uniform(4, 3), 15, true, api.OK},
		{uniform(8, 4), 1, true, api.OK},
		{uniform(3, 4), 8, false, api.ErrThreshold},
		{parse("0: -"), 8, false, api.ErrMissing},
		{uniform(3, 2), 8, false, api.ErrInvalid},
		{uniform(3, 2), -1, false, api.ErrInvalid},
		{uniform(3, 2), math.MinInt, false, api.ErrInvalid},
		{api.Config{}, 0, false, api.ErrInvalid},
	} {
		ok, e := laboratory.Compare(c.c, c.liars)
		same(t, configuration.Text(c.c)+fmt.Sprint(c.liars), fmt.Sprint(ok, e), fmt.Sprint(c.ok, c.e))
	}
}

// The consequences of the chapter: Parse of Format is the script, and Compare is true.
func TestConsequences(t *testing.T) {
	r := rand.New(rand.NewSource(45))
	var all []api.Step
	for _, s := range lines() {
		all = append(all, s)
	}
	for range 100 {
		var l []api.Step
		for range r.Intn(50) {
			l = append(l, all[r.Intn(len(all))])
		}
		text, e := laboratory.Format(l)
		same(t, "Format", e, api.OK)
		back, n, e := laboratory.Parse(text)
		same(t, "Parse", fmt.Sprint(back, n, e), fmt.Sprint(l, 0, 0))
		again, _ := laboratory.Format(back)
		same(t, "Format", again, text)
	}
	for range 60 {
		n := 1 + r.Intn(5)
		var c api.Config
		for range n {
			x := api.Trust{Nodes: r.Perm(n)[:1+r.Intn(n)]}
			x.Threshold = 1 + r.Intn(len(x.Nodes))
			c.Members = append(c.Members, api.Member{Declared: true, Trust: x})
		}
		for liars := range 1 << n {
			ok, e := laboratory.Compare(c, liars)
			same(t, configuration.Text(c)+fmt.Sprint(liars), fmt.Sprint(ok, e), "true 0")
		}
		l, e := analyser.Split(c, 0)
		if e == api.OK {
			text, e := laboratory.Format(l)
			same(t, "Split has lines", e, api.OK)
			back, _, _ := laboratory.Parse(text)
			same(t, "Split has lines", fmt.Sprint(back), fmt.Sprint(l))
		}
	}
}
