package paths_test

import (
	"fmt"
	"math/rand"
	"slices"
	"testing"

	"trustquorum/accounts"
	"trustquorum/api"
	"trustquorum/offers"
	"trustquorum/paths"
	"trustquorum/trustlines"
)

func same[T comparable](t *testing.T, name string, got, want T) {
	t.Helper()
	if got != want {
		t.Errorf("%s: got %v, want %v", name, got, want)
	}
}

func asset(code string, issuer int) api.Asset { return api.Asset{Code: code, Issuer: issuer} }

var (
	usd    = asset("USD", 1)
	eur    = asset("EUR", 2)
	yen    = asset("YEN", 1)
	wrong  = asset("x", 1)
	native api.Asset
)

func offer(id, seller int, selling, buying api.Asset, n, num, den int) api.Offer {
	return api.Offer{ID: id, Seller: seller, Selling: selling, Buying: buying, Amount: n, Num: num, Den: den}
}

// ledger is a ledger in which the accounts 3 to 6 hold all kinds of money.
func ledger(l ...api.Offer) api.Ledger {
	g := api.Ledger{NextID: 100, Offers: l}
	for id := 1; id <= 6; id++ {
		g.Accounts = append(g.Accounts, api.Account{ID: id, Balance: 1000})
		if id > 2 {
			for _, a := range []api.Asset{eur, usd, yen} {
				g.Lines = append(g.Lines, api.Line{Account: id, Asset: a, Balance: 100, Limit: 1000})
			}
		}
	}
	return g
}

// show writes what the accounts 3 to 6 hold, and the offers.
func show(g api.Ledger) string {
	s := ""
	for id := 3; id <= 6; id++ {
		for _, a := range []api.Asset{native, usd, eur, yen} {
			if n := trustlines.Held(g, id, a); n != 100 && n != 1000 {
				s += fmt.Sprint(id, a.Code, n, " ")
			}
		}
	}
	for _, o := range g.Offers {
		s += fmt.Sprint("#", o.ID, ":", o.Amount)
	}
	return s
}

// P39.1
func TestPay(t *testing.T) {
	same(t, "Valid", paths.Valid(nil), true)
	same(t, "Valid", paths.Valid([]api.Asset{usd, native, usd, eur}), true)
	same(t, "Valid", paths.Valid([]api.Asset{usd, native, usd, eur, yen}), false)
	same(t, "Valid", paths.Valid([]api.Asset{usd, wrong}), false)
	g := ledger()
	for name, c := range map[string]struct {
		from, to int
		a        api.Asset
		n        int
		want     string
		e        api.Errno
	}{
		"native":        {3, 4, native, 7, "3993 41007 ", api.OK},
		"dollars":       {3, 4, usd, 7, "3USD93 4USD107 ", api.OK},
		"from issuer":   {1, 4, usd, 7, "4USD107 ", api.OK},
		"to issuer":     {4, 1, usd, 7, "4USD93 ", api.OK},
		"all":           {3, 4, usd, 100, "3USD0 4USD200 ", api.OK},
		"nothing":       {3, 3, wrong, 0, "", api.ErrAmount},
		"negative":      {3, 3, wrong, -1, "", api.ErrAmount},
		"too great":     {3, 3, wrong, api.MaxAmount + 1, "", api.ErrAmount},
		"itself":        {3, 3, wrong, 1, "", api.ErrAccount},
		"no asset":      {8, 9, wrong, 1, "", api.ErrAsset},
		"no payer":      {8, 9, usd, 1, "", api.ErrAccount},
		"no receiver":   {3, 9, usd, 1, "", api.ErrAccount},
		"too much":      {3, 9, usd, 101, "", api.ErrBalance},
		"no line":       {2, 9, usd, 1, "", api.ErrTrust},
		"no line to it": {3, 2, usd, 1, "", api.ErrTrust},
		"too much room": {1, 4, usd, 901, "", api.ErrTrust},
	} {
		next, e := paths.Pay(g, c.from, c.to, c.a, c.n)
		same(t, name, e, c.e)
		same(t, "the argument stays", fmt.Sprint(g), fmt.Sprint(ledger()))
		if e == api.OK {
			same(t, name, show(next), c.want)
		} else {
			same(t, name, fmt.Sprint(next), fmt.Sprint(api.Ledger{}))
		}
	}
	g.NextID = 0
	same(t, "the ledger", fmt.Sprint(paths.Pay(g, 3, 3, wrong, 0)), fmt.Sprint(api.Ledger{}, api.ErrLedger))
}

// P39.2
func TestSend(t *testing.T) {
	l := []api.Offer{offer(1, 5, usd, native, 40, 2, 1), offer(2, 5, eur, usd, 30, 3, 2), offer(3, 3, eur, usd, 30, 1, 1), offer(4, 6, usd, native, 40, 3, 1)}
	for name, c := range map[string]struct {
		from, to  int
		give, get api.Asset
		path      []api.Asset
		n, most   int
		cost      int
		want      string
		e         api.Errno
	}{
		"native":               {3, 4, native, native, nil, 7, 7, 7, "3993 41007 #1:40#2:30#3:30#4:40", api.OK},
		"all the same":         {3, 4, usd, usd, []api.Asset{usd, usd}, 7, 7, 7, "3USD93 4USD107 #1:40#2:30#3:30#4:40", api.OK},
		"one step":             {3, 4, native, usd, nil, 10, 20, 20, "3980 4USD110 51020 5USD90 #1:30#2:30#3:30#4:40", api.OK},
		"one step, two offers": {3, 4, native, usd, nil, 45, 1000, 95, "3905 4USD145 51080 5USD60 61015 6USD95 #2:30#3:30#4:35", api.OK},
		"two steps":            {4, 6, native, eur, []api.Asset{usd}, 10, 20, 20, "3USD110 3EUR90 4980 51020 5USD90 6EUR110 #1:30#2:30#3:20#4:40", api.OK},
		"without its own":      {3, 4, native, eur, []api.Asset{usd}, 10, 30, 30, "3970 4EUR110 51030 5EUR90 #1:25#2:20#3:30#4:40", api.OK},
		"equal neighbours":     {4, 6, native, eur, []api.Asset{native, usd, usd, eur}, 10, 20, 20, "3USD110 3EUR90 4980 51020 5USD90 6EUR110 #1:30#2:30#3:20#4:40", api.OK},
		"without lines":        {1, 6, native, eur, []api.Asset{usd}, 10, 20, 20, "3USD110 3EUR90 51020 5USD90 6EUR110 #1:30#2:30#3:20#4:40", api.OK},
		"the issuer pays":      {1, 6, usd, eur, nil, 10, 20, 10, "3USD110 3EUR90 6EUR110 #1:40#2:30#3:20#4:40", api.OK},
		"nothing":              {9, 9, wrong, wrong, nil, 0, 1, 0, "", api.ErrAmount},
		"negative":             {9, 9, wrong, wrong, nil, -1, 1, 0, "", api.ErrAmount},
		"too great":            {9, 9, wrong, wrong, nil, api.MaxAmount + 1, 1, 0, "", api.ErrAmount},
		"most":                 {9, 9, wrong, wrong, nil, 1, -1, 0, "", api.ErrAmount},
		"great most":           {9, 9, wrong, wrong, nil, 1, api.MaxAmount + 1, 0, "", api.ErrAmount},
		"give":                 {9, 9, wrong, usd, nil, 1, 1, 0, "", api.ErrAsset},
		"get":                  {9, 9, usd, wrong, nil, 1, 1, 0, "", api.ErrAsset},
		"path":                 {9, 9, usd, usd, []api.Asset{wrong}, 1, 1, 0, "", api.ErrAsset},
		"long path":            {9, 9, usd, usd, []api.Asset{usd, usd, usd, usd, usd}, 1, 1, 0, "", api.ErrAsset},
		"from":                 {9, 4, yen, usd, nil, 1, 0, 0, "", api.ErrAccount},
		"to":                   {4, 9, yen, usd, nil, 1, 0, 0, "", api.ErrAccount},
		"itself":               {4, 4, yen, usd, nil, 1, 0, 0, "", api.ErrAccount},
		"no offers":            {3, 4, native, yen, nil, 1, 0, 0, "", api.ErrPath},
		"not enough":           {3, 4, native, usd, nil, 81, 0, 0, "", api.ErrPath},
		"not enough, first":    {3, 4, yen, eur, []api.Asset{usd}, 10, 0, 0, "", api.ErrPath},
		"more than most":       {3, 4, native, usd, nil, 10, 19, 0, "", api.ErrBalance},
		"most is 0":            {3, 4, native, native, nil, 1, 0, 0, "", api.ErrBalance},
		"it has not so much":   {3, 4, usd, usd, nil, 101, 1000, 0, "", api.ErrBalance},
		"no line to pay":       {2, 4, usd, eur, nil, 10, 1000, 0, "", api.ErrTrust},
		"no line to get":       {3, 1, native, eur, []api.Asset{usd}, 10, 1000, 0, "", api.ErrTrust},
		"the issuer gets":      {4, 2, native, eur, []api.Asset{usd}, 10, 1000, 20, "3USD110 3EUR90 4980 51020 5USD90 #1:30#2:30#3:20#4:40", api.OK},
		"zero most of nothing": {3, 4, wrong, usd, nil, 0, 0, 0, "", api.ErrAmount},
	} {
		g := ledger(l...)
		next, cost, e := paths.Send(g, c.from, c.to, c.give, c.get, c.path, c.n, c.most)
		same(t, name, fmt.Sprint(cost, e), fmt.Sprint(c.cost, c.e))
		same(t, "the argument stays", fmt.Sprint(g), fmt.Sprint(ledger(l...)))
		if e == api.OK {
			same(t, name, show(next), c.want)
			same(t, name, offers.Check(next), api.OK)
			quote, e := paths.Quote(g, c.from, c.give, c.get, c.path, c.n)
			same(t, name, fmt.Sprint(quote, e), fmt.Sprint(c.cost, 0))
		} else {
			same(t, name, fmt.Sprint(next), fmt.Sprint(api.Ledger{}))
		}
	}
	g := ledger()
	g.NextID = 0
	next, cost, e := paths.Send(g, 9, 9, wrong, wrong, nil, 0, -1)
	same(t, "the ledger", fmt.Sprint(next, cost, e), fmt.Sprint(api.Ledger{}, 0, api.ErrLedger))
	cost, e = paths.Quote(g, 9, wrong, wrong, nil, 0)
	same(t, "the ledger", fmt.Sprint(cost, e), fmt.Sprint(0, api.ErrLedger))
	path, cost, e := paths.Best(g, 9, wrong, wrong, 0)
	same(t, "the ledger", fmt.Sprint(path, cost, e), fmt.Sprint([]api.Asset{}, 0, api.ErrLedger))
}

// P39.3
func TestQuote(t *testing.T) {
	g := ledger(offer(1, 5, usd, native, 40, 2, 1), offer(2, 5, eur, usd, 30, 3, 2))
	for name, c := range map[string]struct {
		buyer     int
		give, get api.Asset
		path      []api.Asset
		n         int
		want      string
	}{
		"more than it has": {2, usd, usd, nil, 5000, "5000 0"},
		"one step":         {3, native, usd, nil, 40, "80 0"},
		"two steps":        {3, native, eur, []api.Asset{usd}, 3, "10 0"},
		"no room":          {2, native, eur, []api.Asset{usd}, 3, "10 0"},
		"nothing":          {9, wrong, usd, nil, 0, "0 65"},
		"negative":         {9, wrong, usd, nil, -1, "0 65"},
		"no asset":         {9, wrong, usd, nil, 1, "0 71"},
		"no asset, get":    {9, usd, wrong, nil, 1, "0 71"},
		"no path":          {9, usd, usd, []api.Asset{wrong}, 1, "0 71"},
		"no buyer":         {9, native, usd, nil, 1, "0 67"},
		"not enough":       {3, native, usd, nil, 41, "0 73"},
		"its own":          {5, native, usd, nil, 1, "0 73"},
	} {
		cost, e := paths.Quote(g, c.buyer, c.give, c.get, c.path, c.n)
		same(t, name, fmt.Sprint(cost, e), c.want)
	}
}

// P39.3
func TestBest(t *testing.T) {
	direct := offer(1, 5, eur, native, 50, 5, 1)
	cheap := []api.Offer{offer(2, 5, usd, native, 50, 2, 1), offer(3, 5, eur, usd, 50, 1, 1)}
	yens := []api.Offer{offer(4, 5, yen, native, 50, 1, 1), offer(5, 5, eur, yen, 50, 2, 1)}
	long := []api.Offer{offer(6, 5, yen, native, 50, 1, 1), offer(7, 5, usd, yen, 50, 1, 1), offer(8, 5, eur, usd, 50, 1, 1)}
	for name, c := range map[string]struct {
		l         []api.Offer
		buyer     int
		give, get api.Asset
		n         int
		want      string
	}{
		"no offers":          {nil, 3, native, eur, 10, "[] 0 73"},
		"the same":           {nil, 3, eur, eur, 10, "[] 10 0"},
		"direct":             {[]api.Offer{direct}, 3, native, eur, 10, "[] 50 0"},
		"by dollars":         {append([]api.Offer{direct}, cheap...), 3, native, eur, 10, "[{USD 1}] 20 0"},
		"as cheap by yen":    {append(slices.Clone(cheap), yens...), 3, native, eur, 10, "[{USD 1}] 20 0"},
		"in the other order": {[]api.Offer{offer(1, 5, yen, native, 50, 1, 1), offer(2, 5, eur, yen, 50, 2, 1), offer(3, 5, usd, native, 50, 2, 1), offer(4, 5, eur, usd, 50, 1, 1)}, 3, native, eur, 10, "[{USD 1}] 20 0"},
		"as cheap, direct":   {append([]api.Offer{offer(1, 5, eur, native, 50, 2, 1)}, cheap...), 3, native, eur, 10, "[] 20 0"},
		"two":                {append([]api.Offer{direct}, long...), 3, native, eur, 10, "[{YEN 1} {USD 1}] 10 0"},
		"less than direct":   {append([]api.Offer{direct}, yens...), 3, native, eur, 20, "[{YEN 1}] 40 0"},
		"too much for yen":   {append([]api.Offer{direct}, offer(4, 5, yen, native, 10, 1, 1), offer(5, 5, eur, yen, 50, 2, 1)), 3, native, eur, 50, "[] 250 0"},
		"too much at all":    {append([]api.Offer{direct}, yens...), 3, native, eur, 51, "[] 0 73"},
		"nothing":            {cheap, 9, wrong, eur, 0, "[] 0 65"},
		"no asset":           {cheap, 9, wrong, eur, 1, "[] 0 71"},
		"no buyer":           {cheap, 9, native, eur, 1, "[] 0 67"},
		"the path is enough": {cheap, 3, native, eur, 1, "[{USD 1}] 2 0"},
	} {
		g := ledger(c.l...)
		path, cost, e := paths.Best(g, c.buyer, c.give, c.get, c.n)
		same(t, name, fmt.Sprint(path, cost, e), c.want)
	}
}

// The consequences of the chapter: a payment delivers just the amount, or changes nothing; nothing is lost; and Best is the least of all.
func TestConsequences(t *testing.T) {
	r := rand.New(rand.NewSource(39))
	assets := []api.Asset{native, usd, eur, yen}
	sent := 0
	for range 250 {
		g := ledger()
		for range r.Intn(12) {
			p := r.Perm(4)
			if next, _, e := offers.Add(g, 3+r.Intn(4), assets[p[0]], assets[p[1]], 1+r.Intn(60), 1+r.Intn(5), 1+r.Intn(5)); e == api.OK {
				g = next
			}
		}
		p := r.Perm(4)
		give, get := assets[p[0]], assets[p[1]]
		var path []api.Asset
		for range r.Intn(4) {
			path = append(path, assets[r.Intn(4)])
		}
		from, to, n, most := 3+r.Intn(4), 3+r.Intn(4), 1+r.Intn(30), r.Intn(100)
		next, cost, e := paths.Send(g, from, to, give, get, path, n, most)
		if e == api.OK {
			sent++
			same(t, "at most", cost <= most, true)
			same(t, "right", offers.Check(next), api.OK)
			same(t, "native", accounts.Total(next.Accounts), accounts.Total(g.Accounts))
			for _, a := range assets[1:] {
				same(t, "conserved", trustlines.Issued(next.Lines, a), trustlines.Issued(g.Lines, a))
			}
		}
		best, least, e := paths.Best(g, from, give, get, n)
		want, found := 0, false
		for _, a := range append([]api.Asset{get}, assets...) {
			for _, b := range append([]api.Asset{get}, assets...) {
				if c, e := paths.Quote(g, from, give, get, []api.Asset{a, b}, n); e == api.OK && (!found || c < want) {
					want, found = c, true
				}
			}
		}
		same(t, "Best", e == api.OK, found)
		if found {
			same(t, "Best", least, want)
			again, _ := paths.Quote(g, from, give, get, best, n)
			same(t, "Best", again, least)
		}
	}
	same(t, "some", sent > 20, true)
}
