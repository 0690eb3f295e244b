package ledger_test

import (
	"fmt"
	"math"
	"math/rand"
	"slices"
	"strings"
	"testing"

	"trustquorum/api"
	"trustquorum/declaration"
	"trustquorum/ledger"
	"trustquorum/offers"
	"trustquorum/trustlines"
)

func same[T comparable](t *testing.T, name string, got, want T) {
	t.Helper()
	if got != want {
		t.Errorf("%s: got %v, want %v", name, got, want)
	}
}

func asset(code string, issuer int) api.Asset { return api.Asset{Code: code, Issuer: issuer} }

var (
	usd    = asset("USD", 1)
	eur    = asset("EUR", 2)
	wrong  = asset("x", 1)
	native api.Asset
)

func tx(source, sequence, fee int, l ...api.Op) api.Tx {
	return api.Tx{Source: source, Sequence: sequence, Fee: fee, Ops: l}
}

func create(to, n int) api.Op { return api.Op{Kind: api.OpCreate, To: to, Amount: n} }
func pay(to, n int, a api.Asset) api.Op {
	return api.Op{Kind: api.OpPay, To: to, Amount: n, Asset: a}
}
func limit(a api.Asset, n int) api.Op { return api.Op{Kind: api.OpTrust, Asset: a, Amount: n} }
func offer(n int, a, other api.Asset, num, den int) api.Op {
	return api.Op{Kind: api.OpOffer, Amount: n, Asset: a, Other: other, Num: num, Den: den}
}
func cancel(id int) api.Op { return api.Op{Kind: api.OpCancel, ID: id} }
func send(to, n int, a api.Asset, most int, other api.Asset, path ...api.Asset) api.Op {
	return api.Op{Kind: api.OpPath, To: to, Amount: n, Asset: a, Limit: most, Other: other, Path: path}
}

// all are operations that are valid, with their texts.
var all = map[string]api.Op{
	"c7,10":                   create(7, 10),
	"c1000,1000000000000":     create(1000, api.MaxAmount),
	"p3,10,-":                 pay(3, 10, native),
	"p3,1,USD1":               pay(3, 1, usd),
	"tUSD1,0":                 limit(usd, 0),
	"tABCD1000,1000000000000": limit(asset("ABCD", 1000), api.MaxAmount),
	"o5,USD1,-,1,2":           offer(5, usd, native, 1, 2),
	"o5,-,EUR2,4,2":           offer(5, native, eur, 4, 2),
	"x1":                      cancel(1),
	"x1000000":                cancel(1000000),
	"s3,5,USD1,9,-":           send(3, 5, usd, 9, native),
	"s3,5,-,9,-,-,USD1,-,-":   send(3, 5, native, 9, native, native, usd, native, native),
}

// broken are operations that are not valid.
func broken() map[string]api.Op {
	l := map[string]api.Op{
		"zero": {}, "kind": {Kind: 7}, "negative kind": {Kind: -1},
		"create, To": create(0, 1), "create, great To": create(1001, 1), "create, nothing": create(1, 0), "create, negative": create(1, -1), "create, too much": create(1, api.MaxAmount+1),
		"pay, To": pay(0, 1, usd), "pay, nothing": pay(1, 0, usd), "pay, asset": pay(1, 1, wrong),
		"trust, native": limit(native, 1), "trust, asset": limit(wrong, 1), "trust, negative": limit(usd, -1), "trust, too much": limit(usd, api.MaxAmount+1),
		"offer, nothing": offer(0, usd, eur, 1, 1), "offer, equal": offer(1, usd, usd, 1, 1), "offer, asset": offer(1, wrong, usd, 1, 1), "offer, other": offer(1, usd, wrong, 1, 1), "offer, price": offer(1, usd, eur, 0, 1), "offer, great price": offer(1, usd, eur, 1, api.MaxPrice+1),
		"cancel, 0": cancel(0), "cancel, great": cancel(1000001), "cancel, negative": cancel(-1),
		"send, To": send(0, 1, usd, 1, eur), "send, nothing": send(1, 0, usd, 1, eur), "send, asset": send(1, 1, wrong, 1, eur), "send, other": send(1, 1, usd, 1, wrong), "send, limit": send(1, 1, usd, 0, eur), "send, great limit": send(1, 1, usd, api.MaxAmount+1, eur), "send, path": send(1, 1, usd, 1, eur, wrong), "send, long": send(1, 1, usd, 1, eur, usd, usd, usd, usd, usd),
	}
	has := map[int]string{api.OpCreate: "To", api.OpPay: "To Asset", api.OpTrust: "Asset", api.OpOffer: "Asset Other Num Den", api.OpCancel: "ID", api.OpPath: "To Limit Asset Other Path"}
	for text, o := range all {
		for field, f := range map[string]func(*api.Op){
			"To": func(o *api.Op) { o.To = 1 }, "Limit": func(o *api.Op) { o.Limit = 1 }, "Asset": func(o *api.Op) { o.Asset = usd }, "Other": func(o *api.Op) { o.Other = eur },
			"Num": func(o *api.Op) { o.Num = 1 }, "Den": func(o *api.Op) { o.Den = 1 }, "ID": func(o *api.Op) { o.ID = 1 }, "Path": func(o *api.Op) { o.Path = []api.Asset{usd} },
		} {
			if !slices.Contains(strings.Fields(has[o.Kind]), field) {
				x := o
				f(&x)
				l[text+" with "+field] = x
			}
		}
		if o.Kind == api.OpCancel {
			o.Amount = 1
			l[text+" with Amount"] = o
		}
	}
	return l
}

// P40.1
func TestCheck(t *testing.T) {
	for text, o := range all {
		same(t, text, ledger.Check([]api.Tx{tx(2, 1, 5, o)}), api.OK)
	}
	for name, o := range broken() {
		same(t, name, ledger.Check([]api.Tx{tx(2, 1, 5, o)}), api.ErrInvalid)
		same(t, name, ledger.Check([]api.Tx{tx(2, 1, 5, create(7, 1), o)}), api.ErrInvalid)
		next, e := ledger.Do(world(), 99, o)
		same(t, name, fmt.Sprint(next, e), fmt.Sprint(api.Ledger{}, api.ErrInvalid))
	}
	x := cancel(1)
	many := make([]api.Tx, 13)
	for i := range many {
		many[i] = tx(i+1, 1, 1, x)
	}
	for name, c := range map[string]struct {
		l []api.Tx
		e api.Errno
	}{
		"none":            {nil, api.OK},
		"limits":          {[]api.Tx{tx(1, 1, 1, x), tx(1000, api.MaxSequence, api.MaxFee, x, x, x, x)}, api.OK},
		"twelve":          {many[:12], api.OK},
		"thirteen":        {many, api.ErrLimit},
		"thirteen, wrong": {make([]api.Tx, 13), api.ErrLimit},
		"Source":          {[]api.Tx{tx(0, 1, 1, x)}, api.ErrInvalid},
		"great Source":    {[]api.Tx{tx(1001, 1, 1, x)}, api.ErrInvalid},
		"Sequence":        {[]api.Tx{tx(1, 0, 1, x)}, api.ErrInvalid},
		"great Sequence":  {[]api.Tx{tx(1, api.MaxSequence+1, 1, x)}, api.ErrInvalid},
		"Fee":             {[]api.Tx{tx(1, 1, 0, x)}, api.ErrInvalid},
		"great Fee":       {[]api.Tx{tx(1, 1, api.MaxFee+1, x)}, api.ErrInvalid},
		"no operations":   {[]api.Tx{tx(1, 1, 1)}, api.ErrInvalid},
		"five":            {[]api.Tx{tx(1, 1, 1, x, x, x, x, x)}, api.ErrInvalid},
		"the last one":    {[]api.Tx{tx(2, 1, 1, x), tx(1, 1, 1, x), tx(1, 1, 1)}, api.ErrInvalid},
		"order":           {[]api.Tx{tx(2, 1, 1, x), tx(1, 1, 1, x)}, api.ErrOrder},
		"sequences":       {[]api.Tx{tx(2, 2, 1, x), tx(2, 1, 1, x)}, api.ErrOrder},
		"twice":           {[]api.Tx{tx(2, 2, 1, x), tx(2, 2, 1, x)}, api.ErrOrder},
		"one source":      {[]api.Tx{tx(2, 2, 1, x), tx(2, 3, 1, x), tx(3, 1, 1, x)}, api.OK},
	} {
		same(t, name, ledger.Check(c.l), c.e)
		if c.e != api.OK {
			v, e := ledger.Format(c.l)
			same(t, name, fmt.Sprint(v, e), fmt.Sprint("", c.e))
			next, results, e := ledger.Close(world(), c.l)
			same(t, name, fmt.Sprint(next, results, e), fmt.Sprint(api.Ledger{}, []int{}, c.e))
		}
	}
}

// P40.1
func TestSort(t *testing.T) {
	l := []api.Tx{tx(3, 1, 1), tx(1, 2, 5, pay(1, 1, usd)), tx(1, 1, 1), tx(1, 2, 4), tx(-1, 7, 0)}
	before := fmt.Sprint(l)
	got := ledger.Sort(l)
	same(t, "Sort", fmt.Sprint(got), fmt.Sprint([]api.Tx{tx(-1, 7, 0), tx(1, 1, 1), tx(1, 2, 5, pay(1, 1, usd)), tx(1, 2, 4), tx(3, 1, 1)}))
	got[2].Ops[0].To = 9
	same(t, "the argument stays", fmt.Sprint(l), before)
}

// P40.1
func TestText(t *testing.T) {
	for text, o := range all {
		for want, l := range map[string][]api.Tx{
			"2 1 5 " + text: {tx(2, 1, 5, o)},
			"2 1 5 " + text + " x9|3 7 9 c1,1 " + text: {tx(2, 1, 5, o, cancel(9)), tx(3, 7, 9, create(1, 1), o)},
		} {
			v, e := ledger.Format(l)
			same(t, want, fmt.Sprint(v, e), want+"0")
			back, e := ledger.Parse(want)
			same(t, want, fmt.Sprint(back, e), fmt.Sprint(l, 0))
		}
	}
	v, e := ledger.Format(nil)
	same(t, "empty", fmt.Sprint(v, e), "00")
	l, e := ledger.Parse("0")
	same(t, "empty", fmt.Sprint(l, e), "[] 0")
	for _, text := range []string{
		"", " ", "1", "00", "-", "2 1 5", "2 1 5 ", "2 1 5  x1", " 2 1 5 x1", "2 1 5 x1 ", "2 1 5 x1|", "|2 1 5 x1", "2 1 5 x1||3 1 5 x1", "2 1 5 x1\n", "02 1 5 x1", "2 01 5 x1", "2 1 05 x1", "+2 1 5 x1", "2 1 5 x01", "2 1 5 x+1", "2 1 5 x", "2 1 5 x1,", "2 1 5 x1,2", "2 1 5 X1", "2 1 5 y1", "2 1 5 1",
		"2 1 5 x0", "2 1 5 x1000001", "0 1 5 x1", "2 0 5 x1", "2 1 0 x1", "2 1 5 x1 x1 x1 x1 x1", "3 1 5 x1|2 1 5 x1", "2 1 5 x1|2 1 5 x1", "2 1 5 p3,10", "2 1 5 p3,10,", "2 1 5 p3,10,-,", "2 1 5 p3,10,--", "2 1 5 p3,10,USD", "2 1 5 p3,10,1", "2 1 5 p3,10,USD01", "2 1 5 p3,10,usd1", "2 1 5 p3,10,USDXX1", "2 1 5 p3,10,USD0", "2 1 5 p3,10,USD1001", "2 1 5 p3,-1,-", "2 1 5 p3,0,-", "2 1 5 p3,99999999999999999999,-",
		"2 1 5 t-,1", "2 1 5 tUSD1", "2 1 5 o5,USD1,USD1,1,2", "2 1 5 o5,USD1,-,1", "2 1 5 s3,5,USD1,9", "2 1 5 s3,5,USD1,0,-", "2 1 5 s3,5,-,9,-,-,-,-,-,-", "2 1 5 c3", "2 1 5 c,", "2 1 5 c3,,1", "\xff", strings.Repeat("x", 200), strings.Repeat("|", 200), strings.Repeat(" ", 200),
	} {
		l, e := ledger.Parse(text)
		same(t, text, fmt.Sprint(l, e), fmt.Sprint([]api.Tx{}, api.ErrSyntax))
	}
	l, e = ledger.Parse(strings.Repeat("x", 201))
	same(t, "too long", fmt.Sprint(l, e), fmt.Sprint([]api.Tx{}, api.ErrLimit))
	long := []api.Tx{tx(2, 1, 5, limit(usd, api.MaxAmount), limit(usd, api.MaxAmount), limit(usd, api.MaxAmount), limit(usd, api.MaxAmount)), tx(3, 1, 5, limit(usd, api.MaxAmount), limit(usd, api.MaxAmount), limit(usd, api.MaxAmount), limit(usd, api.MaxAmount)), tx(4, 1, 1, cancel(1), cancel(1), cancel(100))}
	v, e = ledger.Format(long)
	same(t, "almost too long", fmt.Sprint(len(v), e), "188 0")
	long[2].Ops[2].ID = 1000000
	long[2].Sequence = 1000000
	long[2].Fee = 100
	v, e = ledger.Format(long)
	same(t, "200 bytes", fmt.Sprint(len(v), e), "200 0")
	long[2].Fee = 1000
	v, e = ledger.Format(long)
	same(t, "too long", fmt.Sprint(v, e), fmt.Sprint("", api.ErrLimit))
}

// world is a ledger with accounts 1 to 4.
func world() api.Ledger {
	g := api.Ledger{Number: 3, NextID: 8, Fees: 100, Link: 77}
	for id := 1; id <= 4; id++ {
		g.Accounts = append(g.Accounts, api.Account{ID: id, Balance: 1000, Sequence: 5})
	}
	g.Lines = []api.Line{{Account: 3, Asset: usd, Balance: 50, Limit: 100}, {Account: 4, Asset: eur, Balance: 50, Limit: 100}, {Account: 4, Asset: usd, Balance: 50, Limit: 100}}
	g.Offers = []api.Offer{{ID: 5, Seller: 3, Selling: usd, Buying: native, Amount: 20, Num: 2, Den: 1}}
	return g
}

// show writes a ledger.
func show(g api.Ledger) string { return string(ledger.Bytes(g)) }

// P40.2
func TestDo(t *testing.T) {
	for name, c := range map[string]struct {
		source int
		o      api.Op
		f      func(*api.Ledger)
		e      api.Errno
	}{
		"create": {2, create(9, 300), func(g *api.Ledger) {
			g.Accounts[1].Balance = 700
			g.Accounts = append(g.Accounts, api.Account{ID: 9, Balance: 300})
		}, api.OK},
		"create, again":  {2, create(3, 300), nil, api.ErrAccount},
		"create, itself": {2, create(2, 300), nil, api.ErrAccount},
		"create, poor":   {2, create(3, 1001), nil, api.ErrBalance},
		"pay":            {3, pay(4, 10, usd), func(g *api.Ledger) { g.Lines[0].Balance, g.Lines[2].Balance = 40, 60 }, api.OK},
		"pay, itself":    {3, pay(3, 10, usd), nil, api.ErrAccount},
		"pay, poor":      {3, pay(4, 51, usd), nil, api.ErrBalance},
		"trust":          {3, limit(eur, 7), func(g *api.Ledger) { g.Lines = slices.Insert(g.Lines, 0, api.Line{Account: 3, Asset: eur, Limit: 7}) }, api.OK},
		"trust, its own": {1, limit(usd, 7), nil, api.ErrAsset},
		"trust, held":    {3, limit(usd, 49), nil, api.ErrTrust},
		"offer": {4, offer(9, eur, usd, 4, 6), func(g *api.Ledger) {
			g.NextID, g.Offers = 9, append(g.Offers, api.Offer{ID: 8, Seller: 4, Selling: eur, Buying: usd, Amount: 9, Num: 2, Den: 3})
		}, api.OK},
		"offer, no line":  {3, offer(9, usd, eur, 1, 1), nil, api.ErrTrust},
		"cancel":          {3, cancel(5), func(g *api.Ledger) { g.Offers = nil }, api.OK},
		"cancel, another": {4, cancel(5), nil, api.ErrOffer},
		"path": {2, send(4, 10, usd, 20, native), func(g *api.Ledger) {
			g.Accounts[1].Balance, g.Accounts[2].Balance, g.Lines[0].Balance, g.Lines[2].Balance, g.Offers[0].Amount = 980, 1020, 40, 60, 10
		}, api.OK},
		"path, too dear": {2, send(4, 10, usd, 19, native), nil, api.ErrBalance},
		"path, none":     {2, send(4, 10, eur, 19, native), nil, api.ErrPath},
		"path, through": {2, send(4, 10, usd, 20, native, native), func(g *api.Ledger) {
			g.Accounts[1].Balance, g.Accounts[2].Balance, g.Lines[0].Balance, g.Lines[2].Balance, g.Offers[0].Amount = 980, 1020, 40, 60, 10
		}, api.OK},
		"no account":         {9, create(10, 1), nil, api.ErrAccount},
		"no account, at all": {math.MinInt, cancel(5), nil, api.ErrAccount},
	} {
		g := world()
		next, e := ledger.Do(g, c.source, c.o)
		same(t, name, e, c.e)
		same(t, "the argument stays", show(g), show(world()))
		if e != api.OK {
			same(t, name, fmt.Sprint(next), fmt.Sprint(api.Ledger{}))
			continue
		}
		c.f(&g)
		same(t, name, show(next), show(g))
		same(t, name, offers.Check(next), api.OK)
	}
	g := world()
	g.Fees = -1
	next, e := ledger.Do(g, 99, api.Op{})
	same(t, "the ledger", fmt.Sprint(next, e), fmt.Sprint(api.Ledger{}, api.ErrLedger))
}

// P40.3
func TestApply(t *testing.T) {
	for name, c := range map[string]struct {
		t    api.Tx
		f    func(*api.Ledger)
		want api.Result
	}{
		"one":            {tx(2, 6, 10, pay(3, 90, native)), func(g *api.Ledger) { g.Accounts[1].Balance, g.Accounts[2].Balance = 900, 1090 }, api.Result{}},
		"several":        {tx(2, 6, 10, create(9, 90), limit(usd, 5), cancel(7), pay(3, 1, native)), func(g *api.Ledger) { g.Accounts[1].Balance = 990 }, api.Result{Err: api.ErrOffer, Op: 2}},
		"the first":      {tx(2, 6, 10, cancel(7), create(9, 90)), func(g *api.Ledger) { g.Accounts[1].Balance = 990 }, api.Result{Err: api.ErrOffer}},
		"one by one":     {tx(2, 6, 10, limit(usd, 5), limit(usd, 0)), func(g *api.Ledger) { g.Accounts[1].Balance = 990 }, api.Result{}},
		"the fee counts": {tx(2, 6, 10, pay(3, 991, native)), func(g *api.Ledger) { g.Accounts[1].Balance = 990 }, api.Result{Err: api.ErrBalance}},
		"sequence":       {tx(2, 7, 10, cancel(7)), nil, api.Result{Err: api.ErrSequence, Op: -1}},
		"no account":     {tx(9, 1, 10, cancel(7)), nil, api.Result{Err: api.ErrAccount, Op: -1}},
		"fee":            {tx(2, 6, 1001, cancel(7)), nil, api.Result{Err: api.ErrBalance, Op: -1}},
		"not valid":      {tx(2, 7, 0, cancel(7)), nil, api.Result{Err: api.ErrInvalid, Op: -1}},
		"no operations":  {tx(2, 6, 10), nil, api.Result{Err: api.ErrInvalid, Op: -1}},
	} {
		g := world()
		next, r := ledger.Apply(g, c.t)
		same(t, name, r, c.want)
		same(t, "the argument stays", show(g), show(world()))
		if c.f != nil {
			c.f(&g)
			g.Accounts[1].Sequence, g.Fees = 6, 110
		}
		same(t, name, show(next), show(g))
		next.Accounts[0].ID, next.Lines[0].Limit, next.Offers[0].ID = 0, 0, 0
		same(t, "no shared memory", offers.Check(g), api.OK)
	}
	g := world()
	g.Fees = api.MaxAmount - 9
	next, r := ledger.Apply(g, tx(2, 6, 10, cancel(5)))
	same(t, "fees", fmt.Sprint(r, show(next) == show(g)), fmt.Sprint(api.Result{Err: api.ErrAmount, Op: -1}, true))
	next, r = ledger.Apply(g, tx(2, 6, 9, limit(usd, 0)))
	same(t, "fees", fmt.Sprint(r, next.Fees), fmt.Sprint(api.Result{}, api.MaxAmount))
	g.Fees = -1
	next, r = ledger.Apply(g, tx(2, 7, 0, cancel(5)))
	same(t, "the ledger", fmt.Sprint(r, show(next) == show(g)), fmt.Sprint(api.Result{Err: api.ErrLedger, Op: -1}, true))
}

// P40.4
func TestClose(t *testing.T) {
	g := world()
	l := []api.Tx{tx(2, 6, 10, pay(3, 90, native)), tx(2, 7, 10, cancel(7)), tx(3, 9, 1, cancel(5)), tx(4, 6, 1, limit(eur, 99))}
	next, results, e := ledger.Close(g, l)
	same(t, "Close", fmt.Sprint(results, e), fmt.Sprint([]api.Result{{}, {Err: api.ErrOffer}, {Err: api.ErrSequence, Op: -1}, {}}, 0))
	want := g
	for _, x := range l {
		want, _ = ledger.Apply(want, x)
	}
	want.Number = 4
	same(t, "Close", show(next), show(want))
	same(t, "the argument stays", show(g), show(world()))
	next, results, e = ledger.Close(g, nil)
	want = world()
	want.Number = 4
	same(t, "empty", fmt.Sprint(show(next), results, e), fmt.Sprint(show(want), []int{}, 0))
	g.Number = api.MaxSequence
	next, results, e = ledger.Close(g, nil)
	same(t, "the last one", fmt.Sprint(next, results, e), fmt.Sprint(api.Ledger{}, []int{}, api.ErrLimit))
	_, _, e = ledger.Close(g, make([]api.Tx, 1))
	same(t, "not valid", e, api.ErrInvalid)
	g.Number++
	next, results, e = ledger.Close(g, make([]api.Tx, 1))
	same(t, "the ledger", fmt.Sprint(next, results, e), fmt.Sprint(api.Ledger{}, []int{}, api.ErrLedger))
	same(t, "Supply", ledger.Supply(g, native), 0)
	same(t, "Supply", ledger.Supply(g, usd), 0)
	for a, want := range map[api.Asset]int{native: 4100, usd: 100, eur: 50, wrong: 0, asset("ABC", 9): 0} {
		same(t, "Supply", ledger.Supply(world(), a), want)
	}
}

// P40.5
func TestBytes(t *testing.T) {
	same(t, "Bytes", show(world()), "3 8 100 77 4 1 1000 5 2 1000 5 3 1000 5 4 1000 5 3 3 USD1 50 100 4 EUR2 50 100 4 USD1 50 100 1 5 3 USD1 - 20 2 1 ")
	same(t, "empty", show(api.Ledger{}), "0 0 0 0 0 0 0 ")
	same(t, "any", show(api.Ledger{Number: -1, NextID: math.MinInt, Link: math.MaxUint64, Lines: []api.Line{{Asset: asset("", 5)}}}), "-1 -9223372036854775808 0 18446744073709551615 0 1 0 5 0 0 0 ")
	same(t, "Digest", ledger.Digest(world()), declaration.Hash(show(world())))
	changes := []func(*api.Ledger){
		func(g *api.Ledger) {}, func(g *api.Ledger) { g.Number++ }, func(g *api.Ledger) { g.NextID++ }, func(g *api.Ledger) { g.Fees++ }, func(g *api.Ledger) { g.Link++ },
		func(g *api.Ledger) { g.Accounts[0].Balance++ }, func(g *api.Ledger) { g.Accounts[0].Sequence++ }, func(g *api.Ledger) { g.Accounts[3].ID++ }, func(g *api.Ledger) { g.Lines[0].Limit++ }, func(g *api.Ledger) { g.Lines[0].Balance++ }, func(g *api.Ledger) { g.Lines[0].Asset = eur },
		func(g *api.Ledger) { g.Offers[0].Amount++ }, func(g *api.Ledger) { g.Offers[0].Num++ }, func(g *api.Ledger) { g.Offers[0].Den++ }, func(g *api.Ledger) { g.Offers[0].Seller++ }, func(g *api.Ledger) { g.Offers[0].ID++ }, func(g *api.Ledger) { g.Offers[0].Buying = eur }, func(g *api.Ledger) { g.Offers[0].Selling = eur },
	}
	seen := map[string]bool{}
	for _, f := range changes {
		g := world()
		f(&g)
		seen[show(g)] = true
	}
	same(t, "all differ", len(seen), len(changes))
}

// The consequences of the chapter, with random sets.
func TestConsequences(t *testing.T) {
	r := rand.New(rand.NewSource(40))
	assets := []api.Asset{native, usd, eur}
	done := map[int]int{}
	for range 60 {
		g := world()
		for range 30 {
			var l []api.Tx
			for id := 1; id <= 5; id++ {
				x := api.Tx{Source: id, Sequence: 1, Fee: 1 + r.Intn(3)}
				for _, a := range g.Accounts {
					if a.ID == id {
						x.Sequence = a.Sequence + 1
					}
				}
				for range 1 + r.Intn(2) {
					p := r.Perm(3)
					x.Ops = append(x.Ops, []api.Op{create(1+r.Intn(9), 1+r.Intn(20)), pay(1+r.Intn(5), 1+r.Intn(20), assets[p[0]]), limit(assets[1+r.Intn(2)], r.Intn(200)), offer(1+r.Intn(20), assets[p[0]], assets[p[1]], 1+r.Intn(4), 1+r.Intn(4)), cancel(1 + r.Intn(20)), send(1+r.Intn(5), 1+r.Intn(9), assets[p[0]], 1+r.Intn(30), assets[p[1]])}[r.Intn(6)])
				}
				if r.Intn(2) == 0 {
					l = append(l, x)
				}
			}
			same(t, "valid", ledger.Check(l), api.OK)
			if v, e := ledger.Format(l); e == api.OK {
				back, e := ledger.Parse(v)
				same(t, "back", fmt.Sprint(back, e), fmt.Sprint(l, 0))
			}
			for _, x := range l {
				next, result := ledger.Apply(g, x)
				if result.Err != api.OK && result.Op >= 0 {
					only := g
					only.Accounts = slices.Clone(g.Accounts)
					for i := range only.Accounts {
						if only.Accounts[i].ID == x.Source {
							only.Accounts[i].Balance -= x.Fee
							only.Accounts[i].Sequence++
						}
					}
					only.Fees += x.Fee
					same(t, "an error changes nothing else", show(next), show(only))
				} else if result.Err == api.OK {
					done[x.Ops[0].Kind]++
				}
			}
			next, _, e := ledger.Close(g, l)
			same(t, "Close", e, api.OK)
			same(t, "right", offers.Check(next), api.OK)
			same(t, "native", ledger.Supply(next, native), ledger.Supply(g, native))
			g = next
		}
		same(t, "issued", ledger.Supply(g, usd), trustlines.Issued(g.Lines, usd))
	}
	same(t, "all kinds", len(done), 6)
}
