package trustlines_test

import (
	"fmt"
	"math"
	"math/rand"
	"testing"

	"trustquorum/api"
	"trustquorum/trustlines"
)

func same[T comparable](t *testing.T, name string, got, want T) {
	t.Helper()
	if got != want {
		t.Errorf("%s: got %v, want %v", name, got, want)
	}
}

func asset(code string, issuer int) api.Asset { return api.Asset{Code: code, Issuer: issuer} }

var (
	usd    = asset("USD", 1)
	eur    = asset("EUR", 2)
	native api.Asset
)

func line(account int, a api.Asset, balance, limit int) api.Line {
	return api.Line{Account: account, Asset: a, Balance: balance, Limit: limit}
}

func list(l ...api.Line) []api.Line { return l }

func three() []api.Account {
	return []api.Account{{ID: 1, Balance: 100}, {ID: 2, Balance: 200}, {ID: 3, Balance: api.MaxAmount - 10}}
}

// ledger is a ledger that is right.
func ledger() api.Ledger {
	return api.Ledger{Number: 7, Accounts: three(), Lines: list(line(2, usd, 5, 9), line(3, eur, 0, 4), line(3, usd, 6, 6)), Offers: []api.Offer{{ID: 1}}, NextID: 5, Fees: 3, Link: 8}
}

// P37.1
func TestCheck(t *testing.T) {
	sorted := func(n int) []api.Line {
		var l []api.Line
		for k := 1; k <= 3; k++ {
			for c := 'A'; c <= 'Z' && len(l) < n; c++ {
				l = append(l, line(k, asset(string(c), 900), 0, 1))
			}
		}
		return l
	}
	for name, c := range map[string]struct {
		l        []api.Line
		accounts []api.Account
		e        api.Errno
	}{
		"none":             {nil, nil, api.OK},
		"right":            {ledger().Lines, three(), api.OK},
		"sixty":            {sorted(60), three(), api.OK},
		"too many":         {sorted(61), three(), api.ErrLimit},
		"too many, wrong":  {make([]api.Line, 61), three(), api.ErrLimit},
		"accounts":         {make([]api.Line, 61), []api.Account{{}}, api.ErrLedger},
		"many accounts":    {list(line(0, usd, 1, 0)), make([]api.Account, 21), api.ErrLimit},
		"no account":       {list(line(4, usd, 0, 1)), three(), api.ErrLedger},
		"no asset":         {list(line(2, asset("usd", 1), 0, 1)), three(), api.ErrLedger},
		"native":           {list(line(2, native, 0, 1)), three(), api.ErrLedger},
		"its own":          {list(line(1, usd, 0, 1)), three(), api.ErrLedger},
		"issuer not there": {list(line(1, asset("USD", 999), 0, 1)), three(), api.OK},
		"Limit":            {list(line(2, usd, 0, api.MaxAmount+1)), three(), api.ErrLedger},
		"negative Limit":   {list(line(2, usd, 0, -1)), three(), api.ErrLedger},
		"Balance":          {list(line(2, usd, 2, 1)), three(), api.ErrLedger},
		"negative Balance": {list(line(2, usd, -1, 1)), three(), api.ErrLedger},
		"full":             {list(line(2, usd, api.MaxAmount, api.MaxAmount)), three(), api.OK},
		"twice":            {list(line(2, usd, 0, 1), line(2, usd, 0, 1)), three(), api.ErrLedger},
		"order":            {list(line(3, usd, 0, 1), line(2, usd, 0, 1)), three(), api.ErrLedger},
		"order of assets":  {list(line(3, usd, 0, 1), line(3, eur, 0, 1)), three(), api.ErrLedger},
	} {
		same(t, name, trustlines.Check(c.l, c.accounts), c.e)
		if c.e == api.OK {
			continue
		}
		g := api.Ledger{Accounts: c.accounts, Lines: c.l}
		same(t, name, trustlines.Room(g, 1, native)+trustlines.Held(g, 1, native), 0)
		same(t, name, fmt.Sprint(trustlines.Credit(g, 99, asset("?", 1), -1)), fmt.Sprint(api.Ledger{}, api.ErrLedger))
		same(t, name, fmt.Sprint(trustlines.Debit(g, 99, asset("?", 1), -1)), fmt.Sprint(api.Ledger{}, api.ErrLedger))
	}
	l := list(line(2, usd, 5, 6), line(2, usd, 7, 8), line(-1, native, -3, 0))
	for _, c := range []struct {
		account int
		a       api.Asset
		want    string
	}{{2, usd, "{2 {USD 1} 5 6} true"}, {-1, native, "{-1 { 0} -3 0} true"}, {2, eur, "{0 { 0} 0 0} false"}, {3, usd, "{0 { 0} 0 0} false"}} {
		x, ok := trustlines.Find(l, c.account, c.a)
		same(t, "Find", fmt.Sprint(x, ok), c.want)
	}
	same(t, "Issued", trustlines.Issued(l, usd), 12)
	same(t, "Issued", trustlines.Issued(l, native), -3)
	same(t, "Issued", trustlines.Issued(l, eur), 0)
	same(t, "wraps", trustlines.Issued(list(line(1, usd, math.MaxInt, 0), line(1, usd, 1, 0)), usd), math.MinInt)
}

// P37.2
func TestLimit(t *testing.T) {
	l := ledger().Lines
	show := func(l []api.Line) string {
		s := ""
		for _, x := range l {
			s += fmt.Sprint(x.Account, x.Asset.Code, x.Balance, "/", x.Limit, " ")
		}
		return s
	}
	for name, c := range map[string]struct {
		l       []api.Line
		account int
		a       api.Asset
		limit   int
		want    string
		e       api.Errno
	}{
		"greater":          {l, 2, usd, 20, "2USD5/20 3EUR0/4 3USD6/6 ", api.OK},
		"the balance":      {l, 2, usd, 5, "2USD5/5 3EUR0/4 3USD6/6 ", api.OK},
		"less":             {l, 2, usd, 4, "", api.ErrTrust},
		"zero":             {l, 2, usd, 0, "", api.ErrTrust},
		"removed":          {l, 3, eur, 0, "2USD5/9 3USD6/6 ", api.OK},
		"new":              {l, 1, eur, 3, "1EUR0/3 2USD5/9 3EUR0/4 3USD6/6 ", api.OK},
		"new, between":     {l, 3, asset("FOO", 9), 3, "2USD5/9 3EUR0/4 3FOO0/3 3USD6/6 ", api.OK},
		"new, last":        {l, 1000, usd, api.MaxAmount, "2USD5/9 3EUR0/4 3USD6/6 1000USD0/1000000000000 ", api.OK},
		"new, zero":        {l, 1, eur, 0, "2USD5/9 3EUR0/4 3USD6/6 ", api.OK},
		"no asset":         {l, 2, asset("usd", 1), -1, "", api.ErrAsset},
		"native":           {l, 2, native, -1, "", api.ErrAsset},
		"its own":          {l, 1, usd, -1, "", api.ErrAsset},
		"account 0":        {l, 0, usd, -1, "", api.ErrAsset},
		"account 1001":     {l, 1001, usd, -1, "", api.ErrAsset},
		"negative":         {l, 2, usd, -1, "", api.ErrAmount},
		"too great":        {l, 2, usd, api.MaxAmount + 1, "", api.ErrAmount},
		"many":             {make([]api.Line, 60), 2, usd, 1, "", api.ErrLimit},
		"many, zero":       {make([]api.Line, 60), 2, usd, 0, show(make([]api.Line, 60)), api.OK},
		"many, negative":   {make([]api.Line, 60), 2, usd, -1, "", api.ErrAmount},
		"one of many":      {append(make([]api.Line, 60), line(2, usd, 0, 1)), 2, usd, 2, show(append(make([]api.Line, 60), line(2, usd, 0, 2))), api.OK},
		"first of many":    {append(list(line(2, usd, 0, 1)), make([]api.Line, 60)...), 2, usd, 2, show(append(list(line(2, usd, 0, 2)), make([]api.Line, 60)...)), api.OK},
		"any list":         {list(line(9, usd, 1, 1), line(1, eur, 1, 1)), 5, usd, 1, "5USD0/1 9USD1/1 1EUR1/1 ", api.OK},
		"any list, end":    {list(line(1, eur, 1, 1), line(4, eur, 1, 1)), 5, usd, 1, "1EUR1/1 4EUR1/1 5USD0/1 ", api.OK},
		"negative balance": {list(line(5, usd, -1, 1)), 5, usd, 0, "5USD-1/0 ", api.OK},
		"the first one":    {list(line(5, usd, 1, 1), line(5, usd, 2, 2)), 5, usd, 4, "5USD1/4 5USD2/2 ", api.OK},
	} {
		before := show(c.l)
		got, e := trustlines.Limit(c.l, c.account, c.a, c.limit)
		same(t, name, e, c.e)
		same(t, name, show(got), c.want)
		same(t, "the argument stays", show(c.l), before)
	}
}

// P37.3
func TestHeld(t *testing.T) {
	g := ledger()
	for _, c := range []struct {
		account    int
		a          api.Asset
		held, room int
	}{
		{1, native, 100, api.MaxAmount - 100}, {3, native, api.MaxAmount - 10, 10}, {4, native, 0, 0},
		{1, usd, api.MaxAmount, api.MaxAmount}, {2, usd, 5, 4}, {3, usd, 6, 0}, {3, eur, 0, 4}, {1, eur, 0, 0},
		{2, eur, api.MaxAmount, api.MaxAmount}, {4, usd, 0, 0}, {2, asset("usd", 1), 0, 0}, {4, asset("USD", 4), 0, 0}, {0, native, 0, 0},
	} {
		same(t, fmt.Sprint("Held ", c.account, c.a), trustlines.Held(g, c.account, c.a), c.held)
		same(t, fmt.Sprint("Room ", c.account, c.a), trustlines.Room(g, c.account, c.a), c.room)
	}
	g.Offers, g.NextID, g.Fees = []api.Offer{{}, {}}, -1, -1
	same(t, "accounts and lines alone", trustlines.Held(g, 2, usd), 5)
}

// P37.4
func TestCreditAndDebit(t *testing.T) {
	for _, c := range []struct {
		account, n    int
		a             api.Asset
		credit, debit api.Errno
	}{
		{2, 4, usd, api.OK, api.OK},
		{2, 5, usd, api.ErrTrust, api.OK},
		{2, 6, usd, api.ErrTrust, api.ErrBalance},
		{3, 1, eur, api.OK, api.ErrBalance},
		{3, 0, usd, api.OK, api.OK},
		{1, 1, eur, api.ErrTrust, api.ErrTrust},
		{1, 0, eur, api.ErrTrust, api.ErrTrust},
		{1, api.MaxAmount, usd, api.OK, api.OK},
		{1, 100, native, api.OK, api.OK},
		{1, 101, native, api.OK, api.ErrBalance},
		{3, 10, native, api.OK, api.OK},
		{3, 11, native, api.ErrAmount, api.OK},
		{9, -1, asset("usd", 1), api.ErrAsset, api.ErrAsset},
		{9, -1, usd, api.ErrAccount, api.ErrAccount},
		{9, -1, asset("X", 9), api.ErrAccount, api.ErrAccount},
		{1, -1, usd, api.ErrAmount, api.ErrAmount},
		{1, -1, eur, api.ErrAmount, api.ErrAmount},
		{1, api.MaxAmount + 1, usd, api.ErrAmount, api.ErrAmount},
		{1, -1, native, api.ErrAmount, api.ErrAmount},
	} {
		for name, x := range map[string]struct {
			f    func(api.Ledger, int, api.Asset, int) (api.Ledger, api.Errno)
			e    api.Errno
			sign int
		}{"Credit": {trustlines.Credit, c.credit, 1}, "Debit": {trustlines.Debit, c.debit, -1}} {
			g := ledger()
			got, e := x.f(g, c.account, c.a, c.n)
			same(t, fmt.Sprint(name, c), e, x.e)
			same(t, "the argument stays", fmt.Sprint(g), fmt.Sprint(ledger()))
			if e != api.OK {
				same(t, name, fmt.Sprint(got), fmt.Sprint(api.Ledger{}))
				continue
			}
			for i := range g.Accounts {
				if c.a == native && g.Accounts[i].ID == c.account {
					g.Accounts[i].Balance += x.sign * c.n
				}
			}
			for i := range g.Lines {
				if g.Lines[i].Asset == c.a && g.Lines[i].Account == c.account {
					g.Lines[i].Balance += x.sign * c.n
				}
			}
			same(t, fmt.Sprint(name, c), fmt.Sprint(got), fmt.Sprint(g))
		}
	}
	g := ledger()
	got, _ := trustlines.Credit(g, 1, usd, 1)
	got.Accounts[0].Balance, got.Lines[0].Balance, got.Offers[0].ID = 0, 0, 0
	same(t, "no shared memory", fmt.Sprint(g), fmt.Sprint(ledger()))
}

// The consequence of the chapter.
func TestConsequence(t *testing.T) {
	r := rand.New(rand.NewSource(37))
	g, held := ledger(), trustlines.Issued(ledger().Lines, usd)
	for range 500 {
		account, n := 1+r.Intn(3), r.Intn(4)
		f, sign := trustlines.Credit, 1
		if r.Intn(2) == 0 {
			f, sign = trustlines.Debit, -1
		}
		if next, e := f(g, account, usd, n); e == api.OK {
			g = next
			if account != 1 {
				held += sign * n
			}
		}
		same(t, "Issued", trustlines.Issued(g.Lines, usd), held)
		same(t, "right", trustlines.Check(g.Lines, g.Accounts), api.OK)
	}
}
