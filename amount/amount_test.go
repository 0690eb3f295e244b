package amount_test

import (
	"fmt"
	"math"
	"math/big"
	"math/rand"
	"testing"

	"trustquorum/amount"
	"trustquorum/api"
)

func same[T comparable](t *testing.T, name string, got, want T) {
	t.Helper()
	if got != want {
		t.Errorf("%s: got %v, want %v", name, got, want)
	}
}

const most = api.MaxAmount

func asset(code string, issuer int) api.Asset { return api.Asset{Code: code, Issuer: issuer} }

// P35.1
func TestValid(t *testing.T) {
	for n, want := range map[int]bool{0: true, 1: true, most: true, -1: false, most + 1: false, math.MaxInt: false, math.MinInt: false} {
		same(t, fmt.Sprint(n), amount.Valid(n), want)
	}
	for _, c := range []struct {
		num, den int
		want     bool
	}{{1, 1, true}, {api.MaxPrice, 1, true}, {1, api.MaxPrice, true}, {0, 1, false}, {1, 0, false}, {-1, -1, false}, {api.MaxPrice + 1, 1, false}, {1, api.MaxPrice + 1, false}} {
		same(t, fmt.Sprint(c), amount.Price(c.num, c.den), c.want)
	}
}

// P35.1
func TestAsset(t *testing.T) {
	for _, c := range []struct {
		a             api.Asset
		valid, native bool
	}{
		{asset("", 0), true, true},
		{asset("USD", 1), true, false},
		{asset("A", 1000), true, false},
		{asset("ZZZZ", 5), true, false},
		{asset("", 1), false, false},
		{asset("USD", 0), false, false},
		{asset("USD", 1001), false, false},
		{asset("USD", -1), false, false},
		{asset("USDXY", 1), false, false},
		{asset("usd", 1), false, false},
		{asset("U1", 1), false, false},
		{asset("U ", 1), false, false},
		{asset("@", 1), false, false},
		{asset("[", 1), false, false},
		{asset("Ä", 1), false, false},
		{asset("U\xff", 1), false, false},
		{asset("\x00", 1), false, false},
	} {
		same(t, fmt.Sprint(c.a), amount.Asset(c.a), c.valid)
		same(t, fmt.Sprint(c.a), amount.Native(c.a), c.native)
	}
	order := []api.Asset{asset("", -1), asset("", 0), asset("", 5), asset("A", 2), asset("A", 10), asset("AB", 1), asset("B", 1), asset("a", 1), asset("\xff", 0)}
	for i, a := range order {
		for k, b := range order {
			same(t, fmt.Sprint(a, b), amount.Less(a, b), i < k)
		}
	}
}

// P35.2
func TestAdd(t *testing.T) {
	for _, c := range []struct {
		a, b, sum, difference int
	}{
		{5, 3, 8, 2}, {3, 3, 6, 0}, {0, 0, 0, 0}, {most, 0, most, most}, {3, 5, 8, -1}, {most, 1, -1, most - 1}, {most, most, -1, 0},
		{-1, 1, -1, -1}, {1, -1, -1, -1}, {most + 1, 1, -1, -1}, {1, most + 1, -1, -1}, {math.MaxInt, math.MaxInt, -1, -1}, {math.MinInt, math.MinInt, -1, -1}, {-5, -5, -1, -1}, {most + 5, most + 1, -1, -1},
	} {
		for name, x := range map[string]struct {
			f    func(a, b int) (int, api.Errno)
			want int
		}{"Add": {amount.Add, c.sum}, "Sub": {amount.Sub, c.difference}} {
			n, e := x.f(c.a, c.b)
			if x.want < 0 {
				same(t, name, fmt.Sprint(n, e), fmt.Sprint(0, api.ErrAmount))
			} else {
				same(t, name, fmt.Sprint(n, e), fmt.Sprint(x.want, 0))
			}
		}
	}
}

// P35.3
func TestPrices(t *testing.T) {
	for _, c := range [][4]int{{6, 4, 3, 2}, {5, 5, 1, 1}, {7, 3, 7, 3}, {api.MaxPrice, api.MaxPrice, 1, 1}, {api.MaxPrice, 999999, api.MaxPrice, 999999}, {12, 18, 2, 3}, {0, 4, 0, 0}, {4, 0, 0, 0}, {-6, -4, 0, 0}, {2 * api.MaxPrice, 2, 0, 0}} {
		num, den := amount.Reduce(c[0], c[1])
		same(t, fmt.Sprint(c), fmt.Sprint(num, den), fmt.Sprint(c[2], c[3]))
	}
	for _, c := range [][5]int{{1, 2, 1, 3, 1}, {1, 3, 1, 2, -1}, {2, 4, 1, 2, 0}, {api.MaxPrice, 1, 1, api.MaxPrice, 1}, {999999, api.MaxPrice, 999998, 999999, 1}, {0, 1, 1, 1, 0}, {1, 1, 1, 0, 0}, {5, 1, -1, 1, 0}, {math.MaxInt, 1, 1, 1, 0}} {
		same(t, fmt.Sprint(c), amount.Compare(c[0], c[1], c[2], c[3]), c[4])
	}
}

// P35.4
func TestTimes(t *testing.T) {
	for _, c := range []struct{ n, num, den, down, up int }{
		{10, 1, 3, 3, 4}, {9, 1, 3, 3, 3}, {0, 5, 3, 0, 0}, {1, 1, api.MaxPrice, 0, 1}, {most, 1, 1, most, most}, {most, api.MaxPrice, api.MaxPrice, most, most}, {most, 999999, api.MaxPrice, 999999000000, 999999000000},
		{most, 2, 1, -1, -1}, {most - 1, api.MaxPrice, 999999, -1, -1}, {-1, 1, 1, -1, -1}, {most + 1, 1, 2, -1, -1}, {5, 0, 1, -1, -1}, {5, 1, 0, -1, -1}, {5, 1, api.MaxPrice + 1, -1, -1}, {5, -1, -1, -1, -1},
		{666666666667, 3, 2, most, -1},
		{math.MaxInt, 1, math.MaxInt, -1, -1},
	} {
		for name, x := range map[string]struct {
			f    func(n, num, den int) (int, api.Errno)
			want int
		}{"Down": {amount.Down, c.down}, "Up": {amount.Up, c.up}} {
			n, e := x.f(c.n, c.num, c.den)
			want := fmt.Sprint(x.want, 0)
			if x.want < 0 {
				want = fmt.Sprint(0, api.ErrAmount)
			}
			same(t, fmt.Sprint(name, c), fmt.Sprint(n, e), want)
		}
	}
}

// The consequences of the chapter, and exact computation.
func TestConsequences(t *testing.T) {
	r := rand.New(rand.NewSource(35))
	for range 5000 {
		n, num, den := r.Intn(most+1), 1+r.Intn(api.MaxPrice), 1+r.Intn(api.MaxPrice)
		if r.Intn(2) == 0 {
			n, num, den = r.Intn(100), 1+r.Intn(9), 1+r.Intn(9)
		}
		exact := new(big.Int).Mul(big.NewInt(int64(n)), big.NewInt(int64(num)))
		quotient, rest := new(big.Int).QuoRem(exact, big.NewInt(int64(den)), new(big.Int))
		down, e1 := amount.Down(n, num, den)
		up, e2 := amount.Up(n, num, den)
		if e1 == api.OK {
			same(t, "Down", int64(down), quotient.Int64())
		} else {
			same(t, "Down", quotient.Cmp(big.NewInt(most)) > 0, true)
		}
		if e1 != api.OK || e2 != api.OK {
			continue
		}
		same(t, "Up", up-down, map[bool]int{true: 1, false: 0}[rest.Sign() > 0])
		if back, e := amount.Up(down, den, num); e == api.OK {
			same(t, "Up of Down", back <= n, true)
		}
		if back, e := amount.Down(up, den, num); e == api.OK {
			same(t, "Down of Up", back >= n, true)
		}
		a, b := amount.Reduce(num, den)
		same(t, "Reduce", amount.Compare(num, den, a, b), 0)
		again, _ := amount.Reduce(a, b)
		same(t, "Reduce", again, a)
	}
}
