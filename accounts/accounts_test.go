package accounts_test

import (
	"fmt"
	"math"
	"testing"

	"trustquorum/accounts"
	"trustquorum/api"
)

func same[T comparable](t *testing.T, name string, got, want T) {
	t.Helper()
	if got != want {
		t.Errorf("%s: got %v, want %v", name, got, want)
	}
}

func account(id, balance, sequence int) api.Account {
	return api.Account{ID: id, Balance: balance, Sequence: sequence}
}

func list(l ...api.Account) []api.Account { return l }

// many is n accounts.
func many(n int) []api.Account {
	var l []api.Account
	for i := range n {
		l = append(l, account(2*i+1, api.MaxAmount, 0))
	}
	return l
}

// P36.1
func TestCheck(t *testing.T) {
	for name, c := range map[string]struct {
		l []api.Account
		e api.Errno
	}{
		"none":              {nil, api.OK},
		"some":              {list(account(1, 0, 0), account(1000, api.MaxAmount, api.MaxSequence)), api.OK},
		"twenty":            {many(20), api.OK},
		"too many":          {many(21), api.ErrLimit},
		"too many and more": {append(many(20), account(0, -1, -1)), api.ErrLimit},
		"ID 0":              {list(account(0, 0, 0)), api.ErrLedger},
		"ID":                {list(account(1001, 0, 0)), api.ErrLedger},
		"Balance":           {list(account(1, api.MaxAmount+1, 0)), api.ErrLedger},
		"negative Balance":  {list(account(1, -1, 0)), api.ErrLedger},
		"Sequence":          {list(account(1, 0, api.MaxSequence+1)), api.ErrLedger},
		"negative Sequence": {list(account(1, 0, -1)), api.ErrLedger},
		"twice":             {list(account(1, 0, 0), account(1, 0, 0)), api.ErrLedger},
		"order":             {list(account(2, 0, 0), account(1, 0, 0)), api.ErrLedger},
	} {
		same(t, name, accounts.Check(c.l), c.e)
		if c.e == api.OK {
			continue
		}
		same(t, name, accounts.Total(c.l), 0)
		want := fmt.Sprint([]api.Account{}, api.ErrLedger)
		same(t, name, fmt.Sprint(accounts.Create(c.l, 0, -1)), want)
		same(t, name, fmt.Sprint(accounts.Give(c.l, 999, -1)), want)
		same(t, name, fmt.Sprint(accounts.Take(c.l, 999, -1)), want)
		same(t, name, fmt.Sprint(accounts.Begin(c.l, 999, -1, -1)), want)
	}
	l := list(account(5, 1, 2), account(3, 4, 5), account(5, 6, 7), account(-8, 9, 9))
	for id, want := range map[int]string{5: "{5 1 2} true", 3: "{3 4 5} true", -8: "{-8 9 9} true", 4: "{0 0 0} false", 0: "{0 0 0} false"} {
		a, ok := accounts.Find(l, id)
		same(t, "Find", fmt.Sprint(a, ok), want)
	}
	same(t, "Total", accounts.Total(many(20)), 20*api.MaxAmount)
	same(t, "Total", accounts.Total(list(account(1, 5, 0), account(2, 7, 0))), 12)
	same(t, "Total", accounts.Total(nil), 0)
}

// P36.2
func TestCreate(t *testing.T) {
	l := list(account(3, 10, 1), account(7, 20, 2))
	for _, c := range []struct {
		l           []api.Account
		id, balance int
		want        string
		e           api.Errno
	}{
		{l, 5, 9, "[{3 10 1} {5 9 0} {7 20 2}]", api.OK},
		{l, 1, 0, "[{1 0 0} {3 10 1} {7 20 2}]", api.OK},
		{l, 1000, api.MaxAmount, "[{3 10 1} {7 20 2} {1000 1000000000000 0}]", api.OK},
		{nil, 1, 1, "[{1 1 0}]", api.OK},
		{l, 0, -1, "[]", api.ErrAccount},
		{l, 1001, -1, "[]", api.ErrAccount},
		{l, 3, -1, "[]", api.ErrAccount},
		{l, 5, -1, "[]", api.ErrAmount},
		{l, 5, api.MaxAmount + 1, "[]", api.ErrAmount},
		{many(20), 1, -1, "[]", api.ErrAccount},
		{many(20), 2, -1, "[]", api.ErrAmount},
		{many(20), 2, 1, "[]", api.ErrLimit},
	} {
		before := fmt.Sprint(c.l)
		got, e := accounts.Create(c.l, c.id, c.balance)
		same(t, fmt.Sprint(c.id, c.balance), fmt.Sprint(got, e), fmt.Sprint(c.want, " ", int(c.e)))
		same(t, "the argument stays", fmt.Sprint(c.l), before)
	}
}

// P36.2
func TestGiveAndTake(t *testing.T) {
	l := list(account(3, 10, 1), account(7, api.MaxAmount-5, 2))
	for _, c := range []struct {
		id, n      int
		give, take string
	}{
		{3, 4, "[{3 14 1} {7 999999999995 2}] 0", "[{3 6 1} {7 999999999995 2}] 0"},
		{3, 0, "[{3 10 1} {7 999999999995 2}] 0", "[{3 10 1} {7 999999999995 2}] 0"},
		{3, 10, "[{3 20 1} {7 999999999995 2}] 0", "[{3 0 1} {7 999999999995 2}] 0"},
		{3, 11, "[{3 21 1} {7 999999999995 2}] 0", "[] 66"},
		{7, 5, "[{3 10 1} {7 1000000000000 2}] 0", "[{3 10 1} {7 999999999990 2}] 0"},
		{7, 6, "[] 65", "[{3 10 1} {7 999999999989 2}] 0"},
		{3, -1, "[] 65", "[] 65"},
		{3, api.MaxAmount + 1, "[] 65", "[] 65"},
		{3, math.MaxInt, "[] 65", "[] 65"},
		{4, -1, "[] 67", "[] 67"},
	} {
		before := fmt.Sprint(l)
		same(t, fmt.Sprint("Give ", c.id, c.n), fmt.Sprint(accounts.Give(l, c.id, c.n)), c.give)
		same(t, fmt.Sprint("Take ", c.id, c.n), fmt.Sprint(accounts.Take(l, c.id, c.n)), c.take)
		same(t, "the argument stays", fmt.Sprint(l), before)
		if more, e := accounts.Give(l, c.id, c.n); e == api.OK {
			back, _ := accounts.Take(more, c.id, c.n)
			same(t, "back", fmt.Sprint(back), before)
		}
	}
}

// P36.3
func TestBegin(t *testing.T) {
	last, e := accounts.Begin(list(account(1, 5, api.MaxSequence-1)), 1, api.MaxSequence, 5)
	same(t, "the last one", fmt.Sprint(last, e), "[{1 0 1000000}] 0")
	l := list(account(3, 10, 0), account(7, api.MaxAmount, api.MaxSequence), account(9, api.MaxAmount, 5))
	for _, c := range []struct {
		id, sequence, fee int
		want              string
	}{
		{3, 1, 5, "[{3 5 1} {7 1000000000000 1000000} {9 1000000000000 5}] 0"},
		{3, 1, 10, "[{3 0 1} {7 1000000000000 1000000} {9 1000000000000 5}] 0"},
		{3, 1, 1, "[{3 9 1} {7 1000000000000 1000000} {9 1000000000000 5}] 0"},
		{9, 6, 100000, "[{3 10 0} {7 1000000000000 1000000} {9 999999900000 6}] 0"},
		{4, 9, 0, "[] 67"},
		{3, 0, 0, "[] 68"},
		{3, 2, 0, "[] 68"},
		{7, api.MaxSequence, 0, "[] 68"},
		{7, api.MaxSequence + 1, 0, "[] 68"},
		{3, 1, 0, "[] 69"},
		{3, 1, -1, "[] 69"},
		{3, 1, 100001, "[] 69"},
		{3, 1, 11, "[] 66"},
	} {
		before := fmt.Sprint(l)
		same(t, fmt.Sprint(c.id, c.sequence, c.fee), fmt.Sprint(accounts.Begin(l, c.id, c.sequence, c.fee)), c.want)
		same(t, "the argument stays", fmt.Sprint(l), before)
	}
}
