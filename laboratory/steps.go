package laboratory

import (
	"slices"
	"strconv"
	"strings"

	"trustquorum/api"
	"trustquorum/data"
	"trustquorum/notation"
	"trustquorum/threshold"
)

// Limits of lines.
const (
	maxWord   = 20
	maxNumber = 1000
	maxSet    = 1<<api.MaxNodes - 1
)

// Word reports whether a value is a word.
func Word(v api.Value) bool {
	for _, b := range []byte(v) {
		if (b < 'a' || b > 'z') && (b < '0' || b > '9') {
			return false
		}
	}
	return len(v) >= 1 && len(v) <= maxWord
}

// line returns words and numbers with a space between two.
func line(l ...any) string {
	var words []string
	for _, x := range l {
		switch x := x.(type) {
		case int:
			words = append(words, strconv.Itoa(x))
		case string:
			words = append(words, x)
		}
	}
	return strings.Join(words, " ")
}

// Lie returns the step by which a node shows that it has decided a value.
func Lie(node, to, slot int, v api.Value) api.Step {
	e := api.Envelope{
		Node: node, Slot: slot, Seq: 1, Trust: api.Trust{Threshold: 1, Nodes: []int{node}},
		Kind: api.KindExternal, Ballot: api.Ballot{Counter: 1, Value: v}, Low: 1, High: 1,
	}
	return api.Step{Kind: api.StepShow, Node: node, To: to, Letter: api.Letter{Kind: api.LetterEnvelope, Slot: slot, Envelope: e}}
}

// isNode reports whether a number may stand for a node.
func isNode(n int) bool { return n >= 0 && n < api.MaxNodes }

// isNumber reports whether a number may stand for a slot or a count.
func isNumber(n int) bool { return n >= 1 && n <= maxNumber }

// only returns a step with those fields alone that its line has.
func only(s api.Step) api.Step {
	switch s.Kind {
	case api.StepPropose, api.StepPrefer:
		return api.Step{Kind: s.Kind, Node: s.Node, Slot: s.Slot, Value: s.Value}
	case api.StepTick:
		return api.Step{Kind: s.Kind, Count: s.Count}
	case api.StepStop:
		return api.Step{Kind: s.Kind, Node: s.Node}
	case api.StepDelay:
		return api.Step{Kind: s.Kind, Node: s.Node, To: s.To, Count: s.Count}
	case api.StepPart:
		return api.Step{Kind: s.Kind, Parts: s.Parts}
	case api.StepDeclare:
		return api.Step{Kind: s.Kind, Node: s.Node, Trust: s.Trust}
	case api.StepShow:
		return Lie(s.Node, s.To, s.Letter.Slot, s.Letter.Envelope.Ballot.Value)
	}
	return api.Step{}
}

// Step returns the line of a step.
func Step(s api.Step) (string, bool) {
	if !data.SameStep(s, only(s)) {
		return "", false
	}
	text, ok := written(s)
	if !ok {
		return "", false
	}
	return text, true
}

// written returns the line of a step without superfluous fields, and whether its fields are right.
func written(s api.Step) (string, bool) {
	switch s.Kind {
	case api.StepPropose:
		return line("propose", s.Node, s.Slot, s.Value), isNode(s.Node) && isNumber(s.Slot) && Word(s.Value)
	case api.StepPrefer:
		return line("prefer", s.Node, s.Slot, s.Value), isNode(s.Node) && isNumber(s.Slot) && Word(s.Value)
	case api.StepTick:
		return line("tick", s.Count), isNumber(s.Count)
	case api.StepStop:
		return line("stop", s.Node), isNode(s.Node)
	case api.StepDelay:
		return line("delay", s.Node, s.To, s.Count), isNode(s.Node) && isNode(s.To) && isNumber(s.Count)
	case api.StepPart:
		words := []any{"part"}
		for _, set := range s.Parts {
			words = append(words, set)
		}
		wrong := slices.ContainsFunc(s.Parts, func(set int) bool { return set < 1 || set > maxSet })
		return line(words...), len(s.Parts) > 0 && !wrong
	case api.StepDeclare:
		return line("declare", s.Node, notation.Text(s.Trust)), isNode(s.Node) && threshold.Valid(s.Trust) == api.OK
	case api.StepShow:
		slot, v := s.Letter.Slot, s.Letter.Envelope.Ballot.Value
		return line("lie", s.Node, s.To, slot, v), isNode(s.Node) && isNode(s.To) && isNumber(slot) && Word(v)
	}
	return "", false
}

// parseStep returns the step with a line. What is read is right exactly if it has the same line.
func parseStep(text string) (api.Step, bool) {
	s := read(text)
	again, ok := Step(s)
	if !ok || again != text {
		return api.Step{}, false
	}
	return s, true
}

// read reads a line that is presumably right.
func read(text string) api.Step {
	words := strings.Split(text, " ")
	number := func(i int) int {
		n, e := strconv.Atoi(words[i])
		if e != nil {
			return -1
		}
		return n
	}
	is := func(word string, n int) bool { return words[0] == word && len(words) == n }
	switch {
	case is("propose", 4):
		return api.Step{Kind: api.StepPropose, Node: number(1), Slot: number(2), Value: words[3]}
	case is("prefer", 4):
		return api.Step{Kind: api.StepPrefer, Node: number(1), Slot: number(2), Value: words[3]}
	case is("tick", 2):
		return api.Step{Kind: api.StepTick, Count: number(1)}
	case is("stop", 2):
		return api.Step{Kind: api.StepStop, Node: number(1)}
	case is("delay", 4):
		return api.Step{Kind: api.StepDelay, Node: number(1), To: number(2), Count: number(3)}
	case is("lie", 5):
		return Lie(number(1), number(2), number(3), words[4])
	case words[0] == "part":
		s := api.Step{Kind: api.StepPart}
		for i := range words[1:] {
			s.Parts = append(s.Parts, number(i+1))
		}
		return s
	case words[0] == "declare" && len(words) > 2:
		t, _, _ := notation.Parse(strings.Join(words[2:], " "))
		return api.Step{Kind: api.StepDeclare, Node: number(1), Trust: t}
	}
	return api.Step{}
}
