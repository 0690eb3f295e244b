package ledger

import (
	"strconv"
	"strings"

	"trustquorum/amount"
	"trustquorum/api"
)

// none is the text of a set without transactions.
const none = "0"

// native is the text of the native asset.
const native = "-"

// page is what is written.
type page struct{ strings.Builder }

// asset returns the text of an asset.
func asset(a api.Asset) string {
	if amount.Native(a) {
		return native
	}
	return a.Code + strconv.Itoa(a.Issuer)
}

// spaced writes words, each with a space behind it.
func (p *page) spaced(words ...string) {
	for _, w := range words {
		p.WriteString(w)
		p.WriteByte(' ')
	}
}

// numbers writes numbers, each with a space behind it.
func (p *page) numbers(l ...int) {
	for _, n := range l {
		p.spaced(strconv.Itoa(n))
	}
}

// Bytes returns the bytes of a ledger.
func Bytes(g api.Ledger) []byte {
	p := &page{}
	p.numbers(g.Number, g.NextID, g.Fees)
	p.spaced(strconv.FormatUint(g.Link, 10))
	p.numbers(len(g.Accounts))
	for _, a := range g.Accounts {
		p.numbers(a.ID, a.Balance, a.Sequence)
	}
	p.numbers(len(g.Lines))
	for _, l := range g.Lines {
		p.numbers(l.Account)
		p.spaced(asset(l.Asset))
		p.numbers(l.Balance, l.Limit)
	}
	p.numbers(len(g.Offers))
	for _, o := range g.Offers {
		p.numbers(o.ID, o.Seller)
		p.spaced(asset(o.Selling), asset(o.Buying))
		p.numbers(o.Amount, o.Num, o.Den)
	}
	return []byte(p.String())
}

// Format returns the text of a set of transactions.
func Format(l []api.Tx) (api.Value, api.Errno) {
	if e := Check(l); e != api.OK {
		return "", e
	}
	p := &page{}
	for i, t := range l {
		if i > 0 {
			p.WriteByte('|')
		}
		p.numbers(t.Source, t.Sequence)
		p.WriteString(strconv.Itoa(t.Fee))
		for _, o := range t.Ops {
			p.WriteByte(' ')
			p.op(o)
		}
	}
	if len(l) == 0 {
		p.WriteString(none)
	}
	if p.Len() > api.MaxBytes {
		return "", api.ErrLimit
	}
	return p.String(), api.OK
}

// op writes the text of an operation.
func (p *page) op(o api.Op) {
	to, n, a, other := strconv.Itoa(o.To), strconv.Itoa(o.Amount), asset(o.Asset), asset(o.Other)
	switch o.Kind {
	case api.OpCreate:
		p.fields("c", to, n)
	case api.OpPay:
		p.fields("p", to, n, a)
	case api.OpTrust:
		p.fields("t", a, n)
	case api.OpOffer:
		p.fields("o", n, a, other, strconv.Itoa(o.Num), strconv.Itoa(o.Den))
	case api.OpCancel:
		p.fields("x", strconv.Itoa(o.ID))
	case api.OpPath:
		words := []string{to, n, a, strconv.Itoa(o.Limit), other}
		for _, x := range o.Path {
			words = append(words, asset(x))
		}
		p.fields("s", words...)
	}
}

// fields writes a letter and fields.
func (p *page) fields(letter string, words ...string) {
	p.WriteString(letter)
	p.WriteString(strings.Join(words, ","))
}

// Parse returns the set of transactions with a text. What it reads is right exactly if it has the same text.
func Parse(v api.Value) ([]api.Tx, api.Errno) {
	if len(v) > api.MaxBytes {
		return nil, api.ErrLimit
	}
	var l []api.Tx
	if v != none {
		for _, text := range strings.Split(v, "|") {
			l = append(l, readTx(text))
		}
	}
	if text, e := Format(l); e != api.OK || text != v {
		return nil, api.ErrSyntax
	}
	return l, api.OK
}

// readNumber reads a number that is presumably right.
func readNumber(text string) int {
	n, e := strconv.Atoi(text)
	if e != nil {
		return -1
	}
	return n
}

// readAsset reads an asset that is presumably right.
func readAsset(text string) api.Asset {
	if text == native {
		return api.Asset{}
	}
	code := strings.TrimRight(text, "0123456789")
	return api.Asset{Code: code, Issuer: readNumber(text[len(code):])}
}

// readTx reads a transaction that is presumably right.
func readTx(text string) api.Tx {
	words := strings.Split(text, " ")
	if len(words) < 4 {
		return api.Tx{}
	}
	t := api.Tx{Source: readNumber(words[0]), Sequence: readNumber(words[1]), Fee: readNumber(words[2])}
	for _, w := range words[3:] {
		t.Ops = append(t.Ops, readOp(w))
	}
	return t
}

// readOp reads an operation that is presumably right.
func readOp(text string) api.Op {
	if text == "" {
		return api.Op{}
	}
	words := strings.Split(text[1:], ",")
	number := func(i int) int { return readNumber(words[i]) }
	has := func(letter byte, n int) bool { return text[0] == letter && len(words) == n }
	switch {
	case has('c', 2):
		return api.Op{Kind: api.OpCreate, To: number(0), Amount: number(1)}
	case has('p', 3):
		return api.Op{Kind: api.OpPay, To: number(0), Amount: number(1), Asset: readAsset(words[2])}
	case has('t', 2):
		return api.Op{Kind: api.OpTrust, Asset: readAsset(words[0]), Amount: number(1)}
	case has('o', 5):
		return api.Op{Kind: api.OpOffer, Amount: number(0), Asset: readAsset(words[1]), Other: readAsset(words[2]), Num: number(3), Den: number(4)}
	case has('x', 1):
		return api.Op{Kind: api.OpCancel, ID: number(0)}
	case text[0] == 's' && len(words) >= 5:
		o := api.Op{Kind: api.OpPath, To: number(0), Amount: number(1), Asset: readAsset(words[2]), Limit: number(3), Other: readAsset(words[4])}
		for _, w := range words[5:] {
			o.Path = append(o.Path, readAsset(w))
		}
		return o
	}
	return api.Op{}
}
