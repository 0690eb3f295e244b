package nodeset_test

import (
	"math"
	"slices"
	"testing"

	"trustquorum/api"
	"trustquorum/nodeset"
)

func same[T comparable](t *testing.T, name string, got, want T) {
	t.Helper()
	if got != want {
		t.Errorf("%s: got %v, want %v", name, got, want)
	}
}

func list(t *testing.T, name string, got, want []int) {
	t.Helper()
	if !slices.Equal(got, want) {
		t.Errorf("%s: got %v, want %v", name, got, want)
	}
}

var noSets = []int{-1, -2, 1024, 1025, 1 << 40, math.MaxInt, math.MinInt}

// P1.1
func TestOf(t *testing.T) {
	for _, c := range []struct {
		nodes []int
		set   int
		e     api.Errno
	}{
		{nil, 0, api.OK},
		{[]int{}, 0, api.OK},
		{[]int{5, 0, 2}, 37, api.OK},
		{[]int{9, 0}, 513, api.OK},
		{[]int{0, 1, 2, 3, 4, 5, 6, 7, 8, 9}, 1023, api.OK},
		{[]int{10}, 0, api.ErrNode},
		{[]int{-1}, 0, api.ErrNode},
		{[]int{math.MaxInt}, 0, api.ErrNode},
		{[]int{1, 1}, 0, api.ErrDuplicate},
		{[]int{1, 2, 1}, 0, api.ErrDuplicate},
		{[]int{1, 1, 10}, 0, api.ErrDuplicate},
		{[]int{10, 1, 1}, 0, api.ErrNode},
	} {
		s, e := nodeset.Of(c.nodes)
		same(t, "Of", s, c.set)
		same(t, "Of", e, c.e)
	}
}

// P1.1
func TestNodes(t *testing.T) {
	for s := range 1024 {
		same(t, "Valid", nodeset.Valid(s), true)
		nodes := nodeset.Nodes(s)
		same(t, "ascending", slices.IsSorted(nodes), true)
		same(t, "Size", nodeset.Size(s), len(nodes))
		back, e := nodeset.Of(nodes)
		same(t, "Of Nodes", back, s)
		same(t, "Of Nodes", e, api.OK)
		for node := -3; node < 70; node++ {
			same(t, "Has", nodeset.Has(s, node), slices.Contains(nodes, node))
		}
	}
	list(t, "Nodes", nodeset.Nodes(37), []int{0, 2, 5})
	for _, s := range noSets {
		same(t, "Valid", nodeset.Valid(s), false)
		same(t, "Size", nodeset.Size(s), 0)
		list(t, "Nodes", nodeset.Nodes(s), nil)
		same(t, "Has", nodeset.Has(s, 0), false)
	}
}

// P1.2
func TestCompare(t *testing.T) {
	order := []int{math.MinInt, -2, -1, 1024, 1 << 40, 0, 1, 2, 512, 3, 5, 6, 768, 7, 896, 15, 1023}
	for i, a := range order {
		for k, b := range order {
			want := 0
			if i < k {
				want = -1
			} else if i > k {
				want = 1
			}
			same(t, "Compare", nodeset.Compare(a, b), want)
		}
	}
}

// P1.2
func TestNext(t *testing.T) {
	for n := range 11 {
		var all []int
		for s, ok := 0, true; ok; s, ok = nodeset.Next(s, n) {
			all = append(all, s)
		}
		same(t, "all sets", len(all), 1<<n)
		for i := range all[1:] {
			same(t, "order", nodeset.Compare(all[i], all[i+1]), -1)
			same(t, "below n", all[i+1] < 1<<n, true)
		}
	}
	for _, c := range []struct {
		s, n, next int
		ok         bool
	}{
		{37, 6, 38, true}, {4, 3, 3, true}, {6, 3, 7, true}, {0, 1, 1, true}, {48, 6, 7, true},
		{7, 3, 0, false}, {0, 0, 0, false}, {1023, 10, 0, false}, {8, 3, 0, false},
		{-1, 10, 0, false}, {1024, 10, 0, false}, {0, -1, 0, false}, {0, 11, 0, false}, {0, 64, 0, false}, {3, math.MinInt, 0, false},
	} {
		next, ok := nodeset.Next(c.s, c.n)
		same(t, "Next", next, c.next)
		same(t, "Next", ok, c.ok)
	}
}

// P1.2
func TestSubsets(t *testing.T) {
	list(t, "some", nodeset.Subsets(37), []int{0, 1, 4, 32, 5, 33, 36, 37})
	list(t, "none", nodeset.Subsets(0), []int{0})
	same(t, "all", len(nodeset.Subsets(1023)), 1024)
	for _, s := range noSets {
		list(t, "no set", nodeset.Subsets(s), nil)
	}
}

// P1.3
func TestLeast(t *testing.T) {
	for _, c := range [][2][]int{
		{nil, nil},
		{{5}, {5}},
		{{5, 5}, {5}},
		{{7, 5}, {5}},
		{{3, 0}, {0}},
		{{12, 3, 16, 28}, {16, 3, 12}},
		{{6, 3, 5}, {3, 5, 6}},
		{{-1, 1024, 6, math.MinInt}, {6}},
	} {
		list(t, "Least", nodeset.Least(c[0]), c[1])
	}
	l := []int{12, 3, 3}
	nodeset.Least(l)
	list(t, "the argument stays", l, []int{12, 3, 3})
}

// P1.3
func TestMeeting(t *testing.T) {
	many := slices.Repeat([]int{2}, api.MaxSets+1)
	for _, c := range []struct {
		l    []int
		n    int
		want []int
		e    api.Errno
	}{
		{[]int{3, 6}, 3, []int{2, 5}, api.OK},
		{[]int{3, 6}, 10, []int{2, 5}, api.OK},
		{nil, 5, []int{0}, api.OK},
		{nil, 0, []int{0}, api.OK},
		{[]int{3, 0}, 2, nil, api.OK},
		{[]int{48, 3}, 6, []int{17, 18, 33, 34}, api.OK},
		{many[1:], 2, []int{2}, api.OK},
		{many, 2, nil, api.ErrLimit},
		{many, 1, nil, api.ErrInvalid},
		{nil, -1, nil, api.ErrInvalid},
		{nil, 11, nil, api.ErrInvalid},
		{[]int{8}, 3, nil, api.ErrInvalid},
		{[]int{-1}, 3, nil, api.ErrInvalid},
		{[]int{1024}, 10, nil, api.ErrInvalid},
	} {
		got, e := nodeset.Meeting(c.l, c.n)
		same(t, "Meeting", e, c.e)
		list(t, "Meeting", got, c.want)
	}
}

// P1.3: Meeting of Meeting is Least.
func TestMeetingTwice(t *testing.T) {
	for x := range 1 << 8 {
		var l []int
		for s := range 8 {
			if x>>s&1 == 1 {
				l = append(l, s)
			}
		}
		once, _ := nodeset.Meeting(l, 3)
		twice, e := nodeset.Meeting(once, 3)
		same(t, "Meeting", e, api.OK)
		list(t, "Meeting", twice, nodeset.Least(l))
	}
}

// P1.4
func TestText(t *testing.T) {
	for text, s := range map[string]int{"{}": 0, "{0}": 1, "{0 2 5}": 37, "{9}": 512, "{0 1 2 3 4 5 6 7 8 9}": 1023} {
		same(t, "Text", nodeset.Text(s), text)
		got, e := nodeset.Parse(text)
		same(t, "Parse", got, s)
		same(t, "Parse", e, api.OK)
	}
	for _, s := range noSets {
		same(t, "Text", nodeset.Text(s), "?")
	}
	for _, text := range []string{"", "?", "{", "}", "{ }", "{0,1}", "{1 0}", "{0 0}", "{0  1}", "{0 1 }", "{ 0}", " {0}", "{0} ", "{0}\n", "{10}", "{01}", "{-1}", "0 1", "{a}", "{\x00}", "\xff"} {
		s, e := nodeset.Parse(text)
		same(t, "Parse "+text, s, 0)
		same(t, "Parse "+text, e, api.ErrSyntax)
	}
}
