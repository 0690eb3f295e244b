package offers_test

import (
	"fmt"
	"math"
	"math/rand"
	"testing"

	"trustquorum/accounts"
	"trustquorum/amount"
	"trustquorum/api"
	"trustquorum/offers"
	"trustquorum/trustlines"
)

func same[T comparable](t *testing.T, name string, got, want T) {
	t.Helper()
	if got != want {
		t.Errorf("%s: got %v, want %v", name, got, want)
	}
}

func asset(code string, issuer int) api.Asset { return api.Asset{Code: code, Issuer: issuer} }

var (
	usd    = asset("USD", 1)
	eur    = asset("EUR", 2)
	native api.Asset
)

func offer(id, seller int, selling, buying api.Asset, n, num, den int) api.Offer {
	return api.Offer{ID: id, Seller: seller, Selling: selling, Buying: buying, Amount: n, Num: num, Den: den}
}

func line(account int, a api.Asset, balance, limit int) api.Line {
	return api.Line{Account: account, Asset: a, Balance: balance, Limit: limit}
}

// ledger is a ledger in which the accounts 3 to 6 hold dollars and native money, and 4 sells for both.
func ledger(l ...api.Offer) api.Ledger {
	g := api.Ledger{Number: 1, NextID: 100, Fees: 5, Link: 9, Offers: l}
	for id := 1; id <= 6; id++ {
		g.Accounts = append(g.Accounts, api.Account{ID: id, Balance: 1000})
		if id > 2 {
			g.Lines = append(g.Lines, line(id, eur, 100, 1000), line(id, usd, 100, 1000))
		}
	}
	return g
}

// P38.1
func TestCheck(t *testing.T) {
	good := offer(3, 4, usd, native, 10, 1, 2)
	var many []api.Offer
	for id := 1; id <= 41; id++ {
		many = append(many, offer(id, 4, usd, native, 10, 1, 2))
	}
	for name, c := range map[string]struct {
		f func(*api.Ledger)
		e api.Errno
	}{
		"right":           {func(g *api.Ledger) {}, api.OK},
		"no offers":       {func(g *api.Ledger) { g.Offers, g.NextID = nil, 1 }, api.OK},
		"limits":          {func(g *api.Ledger) { g.NextID, g.Fees, g.Number = 1000000, api.MaxAmount, api.MaxSequence }, api.OK},
		"forty":           {func(g *api.Ledger) { g.Offers = many[:40] }, api.OK},
		"too many":        {func(g *api.Ledger) { g.Offers, g.NextID = many, 0 }, api.ErrLimit},
		"lines":           {func(g *api.Ledger) { g.Lines[0].Limit, g.Offers = -1, many }, api.ErrLedger},
		"accounts":        {func(g *api.Ledger) { g.Accounts = make([]api.Account, 21) }, api.ErrLimit},
		"ID 0":            {func(g *api.Ledger) { g.Offers[0].ID = 0 }, api.ErrLedger},
		"NextID":          {func(g *api.Ledger) { g.NextID = 3 }, api.ErrLedger},
		"NextID is next":  {func(g *api.Ledger) { g.NextID = 4 }, api.OK},
		"NextID 0":        {func(g *api.Ledger) { g.Offers, g.NextID = nil, 0 }, api.ErrLedger},
		"great NextID":    {func(g *api.Ledger) { g.NextID = 1000001 }, api.ErrLedger},
		"Fees":            {func(g *api.Ledger) { g.Fees = -1 }, api.ErrLedger},
		"great Fees":      {func(g *api.Ledger) { g.Fees = api.MaxAmount + 1 }, api.ErrLedger},
		"Number":          {func(g *api.Ledger) { g.Number = -1 }, api.ErrLedger},
		"Number 0":        {func(g *api.Ledger) { g.Number = 0 }, api.OK},
		"great Number":    {func(g *api.Ledger) { g.Number = api.MaxSequence + 1 }, api.ErrLedger},
		"Seller":          {func(g *api.Ledger) { g.Offers[0].Seller = 7 }, api.ErrLedger},
		"Selling":         {func(g *api.Ledger) { g.Offers[0].Selling = asset("x", 1) }, api.ErrLedger},
		"Buying":          {func(g *api.Ledger) { g.Offers[0].Buying = asset("x", 1) }, api.ErrLedger},
		"equal":           {func(g *api.Ledger) { g.Offers[0].Buying = usd }, api.ErrLedger},
		"Amount 0":        {func(g *api.Ledger) { g.Offers[0].Amount = 0 }, api.ErrLedger},
		"negative Amount": {func(g *api.Ledger) { g.Offers[0].Amount = -1 }, api.ErrLedger},
		"Amount":          {func(g *api.Ledger) { g.Offers[0].Amount = api.MaxAmount + 1 }, api.ErrLedger},
		"price":           {func(g *api.Ledger) { g.Offers[0].Num = 0 }, api.ErrLedger},
		"no price":        {func(g *api.Ledger) { g.Offers[0].Num, g.Offers[0].Den = 0, 0 }, api.ErrLedger},
		"lowest terms":    {func(g *api.Ledger) { g.Offers[0].Num, g.Offers[0].Den = 2, 4 }, api.ErrLedger},
		"twice":           {func(g *api.Ledger) { g.Offers = append(g.Offers, good) }, api.ErrLedger},
		"order":           {func(g *api.Ledger) { g.Offers = append(g.Offers, offer(2, 4, usd, native, 10, 1, 2)) }, api.ErrLedger},
		"no line":         {func(g *api.Ledger) { g.Offers[0].Seller = 1 }, api.OK},
	} {
		g := ledger(good)
		c.f(&g)
		same(t, name, offers.Check(g), c.e)
		if c.e == api.OK {
			continue
		}
		same(t, name, len(offers.Book(g, usd, native)), 0)
		same(t, name, offers.Able(g, good), 0)
		zero := fmt.Sprint(api.Ledger{})
		next, id, e := offers.Add(g, 99, usd, usd, -1, 0, 0)
		same(t, name, fmt.Sprint(next, id, e), fmt.Sprint(zero, " ", 0, c.e))
		next, e = offers.Cancel(g, 4, 9999)
		same(t, name, fmt.Sprint(next, e), fmt.Sprint(zero, " ", int(c.e)))
		next, n, paid, e := offers.Cross(g, 99, usd, usd, -1, -1)
		same(t, name, fmt.Sprint(next, n, paid, e), fmt.Sprint(zero, " ", 0, 0, c.e))
		next, n, paid, e = offers.Take(g, 99, usd, usd, -1, -1)
		same(t, name, fmt.Sprint(next, n, paid, e), fmt.Sprint(zero, " ", 0, 0, c.e))
	}
}

// P38.2
func TestBook(t *testing.T) {
	g := ledger(offer(1, 3, usd, native, 1, 2, 1), offer(2, 3, usd, native, 1, 1, 2), offer(3, 4, usd, eur, 1, 1, 9), offer(4, 4, usd, native, 1, 2, 3), offer(5, 5, usd, native, 1, 1, 2), offer(6, 5, native, usd, 1, 1, 2))
	same(t, "Book", fmt.Sprint(offers.Book(g, usd, native)), "[2 5 4 1]")
	same(t, "Book", fmt.Sprint(offers.Book(g, native, usd)), "[6]")
	same(t, "Book", fmt.Sprint(offers.Book(g, usd, eur)), "[3]")
	same(t, "Book", fmt.Sprint(offers.Book(g, eur, usd)), "[]")
	same(t, "Book", fmt.Sprint(offers.Book(g, usd, usd)), "[]")
}

// P38.2
func TestAble(t *testing.T) {
	g := ledger()
	g.Accounts[2].Balance = api.MaxAmount - 7
	g.Lines[1].Limit = 103 // of 3 for usd
	for name, c := range map[string]struct {
		o    api.Offer
		want int
	}{
		"the amount":         {offer(1, 4, usd, native, 10, 1, 1), 10},
		"what it holds":      {offer(1, 4, usd, native, 1000, 1, 1), 100},
		"room":               {offer(1, 3, usd, native, 1000, 1, 1), 7},
		"room at a price":    {offer(1, 3, usd, native, 1000, 2, 3), 10},
		"rounded up":         {offer(1, 3, usd, native, 1000, 3, 2), 4},
		"no room":            {offer(1, 3, usd, native, 1000, 8, 1), 0},
		"room of a line":     {offer(1, 3, native, usd, 1000, 1, 3), 9},
		"issuer":             {offer(1, 1, usd, native, api.MaxAmount, 1, 1), api.MaxAmount - 1000},
		"issuer, cheap":      {offer(1, 1, usd, native, api.MaxAmount, 1, api.MaxPrice), api.MaxAmount},
		"no line to get it":  {offer(1, 1, usd, eur, 10, 1, 1), 0},
		"no line to sell":    {offer(1, 1, eur, native, 10, 1, 1), 0},
		"no seller":          {offer(1, 9, usd, native, 10, 1, 1), 0},
		"no price":           {offer(1, 4, usd, native, 10, 0, 1), 0},
		"no price, too":      {offer(1, 4, usd, native, 10, 1, 0), 0},
		"not in lowest":      {offer(1, 4, usd, native, 10, 2, 2), 10},
		"negative amount":    {offer(1, 4, usd, native, -5, 1, 1), 0},
		"least amount":       {offer(1, 4, usd, native, math.MinInt, 1, 1), 0},
		"great amount":       {offer(1, 4, usd, native, math.MaxInt, 1, 1), 100},
		"no asset":           {offer(1, 4, asset("x", 1), native, 10, 1, 1), 0},
		"not in the ledger":  {offer(-7, 4, usd, native, 10, 1, 1), 10},
		"equal assets, even": {offer(1, 4, usd, usd, 10, 1, 1), 10},
	} {
		same(t, name, offers.Able(g, c.o), c.want)
	}
	for _, c := range []struct {
		n, num, den int
		want        string
	}{{10, 1, 3, "4 0"}, {0, 1, 3, "0 0"}, {-1, 1, 3, "0 65"}, {10, 0, 3, "0 65"}, {api.MaxAmount, 2, 1, "0 65"}} {
		same(t, fmt.Sprint(c), fmt.Sprint(offers.Cost(offer(0, 0, usd, usd, 0, c.num, c.den), c.n)), c.want)
	}
}

// P38.3
func TestAdd(t *testing.T) {
	g := ledger(offer(3, 4, usd, native, 10, 1, 2))
	for name, c := range map[string]struct {
		seller          int
		selling, buying api.Asset
		n, num, den     int
		e               api.Errno
	}{
		"right":            {5, usd, native, 7, 4, 6, api.OK},
		"more than it has": {5, usd, eur, api.MaxAmount, 1, 1, api.OK},
		"issuer":           {1, usd, native, 7, 4, 6, api.OK},
		"buying its own":   {1, native, usd, 7, 4, 6, api.OK},
		"no account":       {7, usd, usd, -1, 0, 0, api.ErrAccount},
		"Selling":          {5, asset("x", 1), usd, -1, 0, 0, api.ErrAsset},
		"Buying":           {5, usd, asset("x", 1), -1, 0, 0, api.ErrAsset},
		"equal":            {5, usd, usd, -1, 0, 0, api.ErrAsset},
		"no amount":        {1, usd, eur, 0, 1, 1, api.ErrOffer},
		"negative":         {1, usd, eur, -1, 1, 1, api.ErrOffer},
		"too much":         {1, usd, eur, api.MaxAmount + 1, 1, 1, api.ErrOffer},
		"no price":         {1, usd, eur, 1, 0, 1, api.ErrOffer},
		"great price":      {1, usd, eur, 1, 1, api.MaxPrice + 1, api.ErrOffer},
		"no line":          {1, usd, eur, 1, 1, 1, api.ErrTrust},
		"no line to sell":  {1, eur, native, 1, 1, 1, api.ErrTrust},
		"no line at all":   {5, asset("FOO", 1), native, 1, 1, 1, api.ErrTrust},
	} {
		next, id, e := offers.Add(g, c.seller, c.selling, c.buying, c.n, c.num, c.den)
		same(t, name, e, c.e)
		same(t, "the argument stays", fmt.Sprint(g), fmt.Sprint(ledger(offer(3, 4, usd, native, 10, 1, 2))))
		if e != api.OK {
			same(t, name, fmt.Sprint(next, id), fmt.Sprint(api.Ledger{}, 0))
			continue
		}
		num, den := amount.Reduce(c.num, c.den)
		want := ledger(offer(3, 4, usd, native, 10, 1, 2), offer(100, c.seller, c.selling, c.buying, c.n, num, den))
		want.NextID = 101
		same(t, name, fmt.Sprint(next, id), fmt.Sprint(want, 100))
	}
	poor := ledger()
	poor.Lines[5].Balance = 0
	poor.NextID = 1000000
	_, _, e := offers.Add(poor, 5, usd, native, 1, 1, 1)
	same(t, "it holds nothing", e, api.ErrBalance)
	_, _, e = offers.Add(poor, 5, eur, native, 1, 1, 1)
	same(t, "no number is left", e, api.ErrLimit)
	many := ledger()
	for id := 1; id <= 40; id++ {
		many.Offers = append(many.Offers, offer(id, 4, usd, native, 10, 1, 2))
	}
	_, _, e = offers.Add(many, 5, usd, native, 1, 1, 1)
	same(t, "too many", e, api.ErrLimit)
	many.Offers = many.Offers[:39]
	_, _, e = offers.Add(many, 5, usd, native, 1, 1, 1)
	same(t, "not too many", e, api.OK)
}

// P38.3
func TestCancel(t *testing.T) {
	g := ledger(offer(3, 4, usd, native, 10, 1, 2), offer(5, 3, usd, native, 10, 1, 2))
	next, e := offers.Cancel(g, 4, 3)
	same(t, "Cancel", fmt.Sprint(next, e), fmt.Sprint(ledger(offer(5, 3, usd, native, 10, 1, 2)), 0))
	same(t, "the argument stays", len(g.Offers), 2)
	for _, c := range [][2]int{{3, 3}, {4, 5}, {4, 4}, {4, -1}, {99, 3}} {
		next, e := offers.Cancel(g, c[0], c[1])
		same(t, "Cancel", fmt.Sprint(next, e), fmt.Sprint(api.Ledger{}, api.ErrOffer))
	}
}

// show writes what a trade changes: native balances, and dollars, of the accounts 3 to 6, and the offers.
func show(g api.Ledger) string {
	s := ""
	for id := 3; id <= 6; id++ {
		s += fmt.Sprint(trustlines.Held(g, id, native), "/", trustlines.Held(g, id, usd), " ")
	}
	for _, o := range g.Offers {
		s += fmt.Sprint("#", o.ID, ":", o.Amount)
	}
	return s
}

// P38.4
func TestCross(t *testing.T) {
	two := []api.Offer{offer(1, 3, usd, native, 10, 1, 1), offer(2, 4, usd, native, 10, 1, 2)}
	thirds := []api.Offer{offer(1, 3, usd, native, 10, 1, 3), offer(2, 4, usd, native, 10, 1, 3)}
	for name, c := range map[string]struct {
		l       []api.Offer
		taker   int
		n, most int
		bought  int
		paid    int
		want    string
	}{
		"the example":        {two, 5, 15, 1000, 15, 10, "1005/95 1005/90 1000/100 1000/100 #1:5"},
		"the first one":      {two, 5, 4, 1000, 4, 2, "1000/100 1002/96 1000/100 1000/100 #1:10#2:6"},
		"just the first one": {two, 5, 10, 1000, 10, 5, "1000/100 1005/90 1000/100 1000/100 #1:10"},
		"all":                {two, 5, 100, 1000, 20, 15, "1010/90 1005/90 1000/100 1000/100 "},
		"not enough money":   {two, 5, 100, 7, 12, 7, "1002/98 1005/90 1000/100 1000/100 #1:8"},
		"no money":           {two, 5, 100, 0, 0, 0, "1000/100 1000/100 1000/100 1000/100 #1:10#2:10"},
		"nothing wanted":     {two, 5, 0, 1000, 0, 0, "1000/100 1000/100 1000/100 1000/100 #1:10#2:10"},
		"its own":            {two, 4, 15, 1000, 10, 10, "1010/90 1000/100 1000/100 1000/100 #2:10"},
		"nobody":             {two, 99, 1, 1000, 1, 1, "1000/100 1001/99 1000/100 1000/100 #1:10#2:9"},
		"rounded up":         {thirds, 5, 11, 1000, 11, 5, "1004/90 1001/99 1000/100 1000/100 #2:9"},
		"rounded up, money":  {thirds, 5, 11, 4, 10, 4, "1004/90 1000/100 1000/100 1000/100 #2:10"},
		"rounded up, less":   {thirds, 5, 11, 3, 9, 3, "1003/91 1000/100 1000/100 1000/100 #1:1#2:10"},
		"more than it holds": {[]api.Offer{offer(1, 3, usd, native, 500, 1, 1), offer(2, 4, usd, native, 10, 1, 1)}, 5, 105, 1000, 105, 105, "1100/0 1005/95 1000/100 1000/100 #2:5"},
		"twice one seller":   {[]api.Offer{offer(1, 3, usd, native, 60, 1, 1), offer(2, 3, usd, native, 60, 1, 1), offer(3, 4, usd, native, 60, 1, 1)}, 5, 120, 1000, 120, 120, "1100/0 1020/80 1000/100 1000/100 #3:40"},
		"no offers":          {nil, 5, 120, 1000, 0, 0, "1000/100 1000/100 1000/100 1000/100 "},
		"another pair":       {[]api.Offer{offer(1, 3, usd, eur, 10, 1, 1), offer(2, 4, native, usd, 10, 1, 1)}, 5, 10, 1000, 0, 0, "1000/100 1000/100 1000/100 1000/100 #1:10#2:10"},
	} {
		g := ledger(c.l...)
		next, bought, paid, e := offers.Cross(g, c.taker, usd, native, c.n, c.most)
		same(t, name, fmt.Sprint(bought, paid, e), fmt.Sprint(c.bought, c.paid, 0))
		same(t, name, show(next), c.want)
		same(t, name, offers.Check(next), api.OK)
		same(t, "the argument stays", fmt.Sprint(g), fmt.Sprint(ledger(c.l...)))
	}
	// Offers of which nothing can be had are removed, until one can be had.
	dead := ledger(offer(1, 3, usd, native, 10, 1, 3), offer(2, 4, usd, native, 10, 1, 2), offer(3, 3, usd, native, 10, 1, 1))
	dead.Lines[1].Balance = 0
	next, bought, paid, e := offers.Cross(dead, 5, usd, native, 0, 0)
	same(t, "nothing wanted", fmt.Sprint(bought, paid, e, show(next)), "0 0 01000/0 1000/100 1000/100 1000/100 #2:10#3:10")
	next, bought, paid, e = offers.Cross(dead, 5, usd, native, 10, 100)
	same(t, "all wanted", fmt.Sprint(bought, paid, e, show(next)), "10 5 01000/0 1005/90 1000/100 1000/100 ")
	next, _, _, _ = offers.Cross(dead, 3, usd, native, 100, 100)
	same(t, "its own stay", show(next), "1000/0 1005/90 1000/100 1000/100 #1:10#3:10")
	g := ledger()
	for _, c := range []struct {
		get, give api.Asset
		n, most   int
		e         api.Errno
	}{
		{usd, usd, -1, -1, api.ErrAsset},
		{asset("x", 1), usd, -1, -1, api.ErrAsset},
		{usd, asset("x", 1), -1, -1, api.ErrAsset},
		{usd, native, -1, 1, api.ErrAmount},
		{usd, native, 1, -1, api.ErrAmount},
		{usd, native, api.MaxAmount + 1, 1, api.ErrAmount},
		{usd, native, 1, api.MaxAmount + 1, api.ErrAmount},
		{usd, native, api.MaxAmount, api.MaxAmount, api.OK},
	} {
		for name, f := range map[string]func(api.Ledger, int, api.Asset, api.Asset, int, int) (api.Ledger, int, int, api.Errno){"Cross": offers.Cross, "Take": offers.Take} {
			next, bought, paid, e := f(g, 3, c.get, c.give, c.n, c.most)
			same(t, name, fmt.Sprint(bought, paid, e), fmt.Sprint(0, 0, c.e))
			if e != api.OK {
				same(t, name, fmt.Sprint(next), fmt.Sprint(api.Ledger{}))
			}
		}
	}
}

// P38.4
func TestTake(t *testing.T) {
	l := []api.Offer{offer(1, 3, usd, native, 10, 1, 1), offer(2, 4, usd, native, 10, 1, 2)}
	g := ledger(l...)
	next, bought, paid, e := offers.Take(g, 5, usd, native, 15, 1000)
	same(t, "Take", fmt.Sprint(bought, paid, e, show(next)), "15 10 01005/95 1005/90 990/115 1000/100 #1:5")
	same(t, "the argument stays", fmt.Sprint(g), fmt.Sprint(ledger(l...)))
	poor, full := ledger(l...), ledger(l...)
	poor.Accounts[4].Balance = 9
	full.Lines[5].Limit = 114
	for name, c := range map[string]struct {
		g     api.Ledger
		buyer int
		get   api.Asset
		e     api.Errno
	}{
		"no buyer":              {g, 7, native, api.ErrAccount},
		"no buyer, whoever":     {g, math.MinInt, native, api.ErrAccount},
		"too little":            {poor, 5, usd, api.ErrBalance},
		"no room":               {full, 5, usd, api.ErrTrust},
		"no line":               {g, 2, usd, api.ErrTrust},
		"no line, nothing sold": {g, 2, asset("FOO", 1), api.ErrTrust},
	} {
		next, bought, paid, e := offers.Take(c.g, c.buyer, c.get, native, 15, 1000)
		same(t, name, fmt.Sprint(next, bought, paid, e), fmt.Sprint(api.Ledger{}, 0, 0, c.e))
	}
	next, bought, paid, e = offers.Take(ledger(offer(1, 3, native, usd, 10, 1, 1)), 1, native, usd, 5, 9)
	same(t, "the issuer pays", fmt.Sprint(bought, paid, e, show(next)), "5 5 0995/105 1000/100 1000/100 1000/100 #1:5")
}

// The consequences of the chapter.
func TestConsequences(t *testing.T) {
	r := rand.New(rand.NewSource(38))
	assets := []api.Asset{native, usd, eur}
	trades := 0
	for range 400 {
		g := ledger()
		for range r.Intn(10) {
			p := r.Perm(3)
			if next, _, e := offers.Add(g, 1+r.Intn(6), assets[p[0]], assets[p[1]], 1+r.Intn(60), 1+r.Intn(5), 1+r.Intn(5)); e == api.OK {
				g = next
			}
		}
		p := r.Perm(3)
		get, give := assets[p[0]], assets[p[1]]
		n, most, buyer := r.Intn(200), r.Intn(200), 3+r.Intn(4)
		book := offers.Book(g, get, give)
		next, bought, paid, e := offers.Take(g, buyer, get, give, n, most)
		if e != api.OK {
			continue
		}
		same(t, "right", offers.Check(next), api.OK)
		same(t, "at most", bought <= n && paid <= most, true)
		same(t, "native", accounts.Total(next.Accounts), accounts.Total(g.Accounts))
		for _, a := range []api.Asset{usd, eur} {
			sold := 0
			for _, o := range g.Offers {
				if o.Seller == a.Issuer {
					left := 0
					for _, x := range next.Offers {
						if x.ID == o.ID {
							left = x.Amount
						}
					}
					if o.Selling == a || o.Buying == a {
						sold += o.Amount - left
					}
				}
			}
			if sold == 0 {
				same(t, "conserved", trustlines.Issued(next.Lines, a), trustlines.Issued(g.Lines, a))
			}
		}
		if bought > 0 {
			trades++
			worst := g.Offers[0]
			for _, o := range g.Offers {
				if o.ID == book[len(book)-1] {
					worst = o
				}
			}
			cost, _ := offers.Cost(worst, bought)
			same(t, "the price", paid <= cost+len(book), true)
		}
	}
	same(t, "trades", trades > 50, true)
}
