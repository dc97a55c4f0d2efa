package exchange

import (
	"math"
	"math/big"
	"slices"
	"testing"

	"treaty/api"
)

const most = api.MaxAmount

// rate is a row of a table: Currency, From, PerUnit. amt is a row of a list: Currency, Amount.
type (
	rate [3]int
	amt  [2]int
)

// rates returns a table of rates.
func rates(rows ...rate) []api.Rate {
	var l []api.Rate
	for _, r := range rows {
		l = append(l, api.Rate{Currency: r[0], From: r[1], PerUnit: r[2]})
	}
	return l
}

// one returns one amount in a currency.
func one(r amt) api.Cash {
	return api.Cash{Currency: r[0], Amount: r[1]}
}

// cash returns a list of amounts.
func cash(rows ...amt) []api.Cash {
	var l []api.Cash
	for _, r := range rows {
		l = append(l, one(r))
	}
	return l
}

// times returns n times r, and then the others.
func times(n int, r amt, others ...amt) []amt {
	return append(slices.Repeat([]amt{r}, n), others...)
}

// long returns n rates in order.
func long(n int) []rate {
	var l []rate
	for i := range n {
		l = append(l, rate{1 + i/20, i % 20, i + 1})
	}
	return l
}

// table has two currencies whose rates change, one that has none at first, the greatest rate and the least one.
func table() []api.Rate {
	return rates(rate{1, 0, 2500000}, rate{1, 100, 2000000}, rate{2, 50, 400000}, rate{2, 51, 500000}, rate{2, 1000, 600000}, rate{5, 0, api.MaxPerUnit}, rate{15, 0, 1}, rate{15, api.MaxHour, 7})
}

// unchanged reports an argument that is not what it was.
func unchanged[T comparable](t *testing.T, before, now []T) {
	t.Helper()
	if !slices.Equal(before, now) {
		t.Errorf("an argument has changed: %v, %v", before, now)
	}
}

func TestValidate(t *testing.T) { // P4.1
	for i, x := range []struct {
		rows []rate
		want api.Errno
	}{
		{nil, api.OK},
		{[]rate{{1, 0, 1}}, api.OK},
		{[]rate{{15, api.MaxHour, api.MaxPerUnit}}, api.OK},
		{long(api.MaxRates), api.OK},
		{long(api.MaxRates + 1), api.ErrLimit},
		{[]rate{{0, 0, 1}}, api.ErrCurrency},
		{[]rate{{-1, 0, 1}}, api.ErrCurrency},
		{[]rate{{16, 0, 1}}, api.ErrCurrency},
		{[]rate{{math.MinInt, 0, 1}}, api.ErrCurrency},
		{[]rate{{math.MaxInt, 0, 1}}, api.ErrCurrency},
		{[]rate{{1, -1, 1}}, api.ErrRange},
		{[]rate{{1, api.MaxHour + 1, 1}}, api.ErrRange},
		{[]rate{{1, math.MinInt, 1}}, api.ErrRange},
		{[]rate{{1, math.MaxInt, 1}}, api.ErrRange},
		{[]rate{{1, 0, 0}}, api.ErrRange},
		{[]rate{{1, 0, -1}}, api.ErrRange},
		{[]rate{{1, 0, api.MaxPerUnit + 1}}, api.ErrRange},
		{[]rate{{1, 0, math.MinInt}}, api.ErrRange},
		{[]rate{{1, 0, math.MaxInt}}, api.ErrRange},
		// by Currency first, then by From; PerUnit does not count
		{[]rate{{1, 9, 1}, {2, 0, 1}}, api.OK},
		{[]rate{{1, 9, 5}, {1, 10, 1}}, api.OK},
		{[]rate{{1, 9, 1}, {1, 9, 1}}, api.ErrOrder},
		{[]rate{{1, 9, 1}, {1, 9, 2}}, api.ErrOrder},
		{[]rate{{1, 9, 1}, {1, 8, 2}}, api.ErrOrder},
		{[]rate{{2, 0, 1}, {1, 9, 1}}, api.ErrOrder},
		{[]rate{{2, 0, 1}, {1, 0, 1}}, api.ErrOrder},
		{[]rate{{1, 0, 1}, {2, 5, 1}, {2, 5, 2}}, api.ErrOrder},
		// several errors of one rate
		{[]rate{{0, -1, 0}}, api.ErrCurrency},
		{[]rate{{2, 5, 1}, {0, 0, 1}}, api.ErrCurrency},
		{[]rate{{2, 5, 1}, {1, -1, 1}}, api.ErrRange},
		{[]rate{{2, 5, 1}, {2, 5, 0}}, api.ErrRange},
		// the first rate that has an error
		{[]rate{{1, 0, 0}, {0, 0, 1}}, api.ErrRange},
		{[]rate{{1, 1, 1}, {1, 0, 1}, {0, 0, 1}}, api.ErrOrder},
		{[]rate{{1, 1, 1}, {1, 0, 1}, {2, 0, 0}}, api.ErrOrder},
		{slices.Repeat([]rate{{}}, api.MaxRates), api.ErrCurrency},
		{slices.Repeat([]rate{{}}, api.MaxRates+1), api.ErrLimit},
	} {
		l := rates(x.rows...)
		if e := Validate(l); e != x.want {
			t.Errorf("case %d: %d, want %d", i, e, x.want)
		}
		unchanged(t, rates(x.rows...), l)
	}
}

func TestAt(t *testing.T) { // P4.2
	for _, x := range []struct {
		currency, hour, want int
		e                    api.Errno
	}{
		{0, 0, api.Million, api.OK},
		{0, api.MaxHour, api.Million, api.OK},
		{1, 0, 2500000, api.OK},
		{1, 99, 2500000, api.OK},
		{1, 100, 2000000, api.OK},
		{1, api.MaxHour, 2000000, api.OK},
		{2, 50, 400000, api.OK},
		{2, 51, 500000, api.OK},
		{2, 999, 500000, api.OK},
		{2, 1000, 600000, api.OK},
		{5, 0, api.MaxPerUnit, api.OK},
		{15, api.MaxHour - 1, 1, api.OK},
		{15, api.MaxHour, 7, api.OK},
		// no such rate, though the currencies beside it have some
		{2, 0, 0, api.ErrCurrency},
		{2, 49, 0, api.ErrCurrency},
		{3, 0, 0, api.ErrCurrency},
		{4, api.MaxHour, 0, api.ErrCurrency},
		{14, 7, 0, api.ErrCurrency},
		{-1, 0, 0, api.ErrCurrency},
		{16, 0, 0, api.ErrCurrency},
		{math.MinInt, 0, 0, api.ErrCurrency},
		{math.MaxInt, 0, 0, api.ErrCurrency},
		{1, -1, 0, api.ErrRange},
		{1, api.MaxHour + 1, 0, api.ErrRange},
		{0, -1, 0, api.ErrRange},
		{0, math.MinInt, 0, api.ErrRange},
		{0, math.MaxInt, 0, api.ErrRange},
		// several errors at once
		{3, -1, 0, api.ErrRange},
		{-1, -1, 0, api.ErrRange},
		{16, api.MaxHour + 1, 0, api.ErrRange},
	} {
		if n, e := At(table(), x.currency, x.hour); n != x.want || e != x.e {
			t.Errorf("At(%d, %d) = %d, %d, want %d, %d", x.currency, x.hour, n, e, x.want, x.e)
		}
	}
	if n, e := At(nil, 0, 5); n != api.Million || e != api.OK {
		t.Errorf("without rates: %d, %d", n, e)
	}
	if n, e := At(nil, 1, 5); n != 0 || e != api.ErrCurrency {
		t.Errorf("without rates: %d, %d", n, e)
	}
}

// lastRate returns PerUnit of the last rate of a currency that begins at hour or before, or 0.
func lastRate(l []api.Rate, currency, hour int) int {
	found := 0
	for _, r := range l {
		if r.Currency == currency && r.From <= hour {
			found = r.PerUnit
		}
	}
	return found
}

// TestAtInTables has tables of all lengths, with every currency and hour in them.
func TestAtInTables(t *testing.T) { // P4.2
	for n := range api.MaxRates + 1 {
		l := rates(long(n)...)
		for i := range l {
			l[i].From = 3*l[i].From + 1
		}
		before := slices.Clone(l)
		for currency := 1; currency <= api.MaxCurrency; currency++ {
			for hour := range 62 {
				want, wantE := lastRate(l, currency, hour), api.OK
				if want == 0 {
					wantE = api.ErrCurrency
				}
				if got, e := At(l, currency, hour); got != want || e != wantE {
					t.Fatalf("%d rates: At(%d, %d) = %d, %d, want %d", n, currency, hour, got, e, want)
				}
			}
		}
		unchanged(t, before, l)
	}
}

// TestWrongTable has tables that are not valid: with arguments that have no other error, and with some that have all.
func TestWrongTable(t *testing.T) { // P4.2, P4.3, P4.4
	tooMany := make([]api.Cash, api.MaxList+1)
	for _, x := range []struct {
		rows []rate
		want api.Errno
	}{
		{long(api.MaxRates + 1), api.ErrLimit},
		{[]rate{{0, 0, 1}}, api.ErrCurrency},
		{[]rate{{1, 0, 0}}, api.ErrRange},
		{[]rate{{1, 5, 1}, {1, 5, 1}}, api.ErrOrder},
	} {
		l := rates(x.rows...)
		for _, to := range []int{0, 16} {
			for _, hour := range []int{9, -1} {
				if n, e := At(l, to, hour); n != 0 || e != x.want {
					t.Errorf("At(%d, %d) = %d, %d, want %d", to, hour, n, e, x.want)
				}
				for _, c := range cash(amt{0, 5}, amt{16, most + 1}) {
					if n, e := Convert(l, c, to, hour); n != 0 || e != x.want {
						t.Errorf("Convert(%v, %d, %d) = %d, %d, want %d", c, to, hour, n, e, x.want)
					}
				}
				for _, c := range [][]api.Cash{nil, cash(amt{0, 5}), cash(amt{16, most + 1}), tooMany} {
					if n, e := Total(l, c, to, hour); n != 0 || e != x.want {
						t.Errorf("Total of %d: %d, %d, want %d", len(c), n, e, x.want)
					}
				}
			}
		}
	}
}

func TestConvert(t *testing.T) { // P4.3
	for _, x := range []struct {
		c              amt
		to, hour, want int
	}{
		{amt{1, 3}, 0, 0, 8},
		{amt{1, -3}, 0, 0, -8},
		{amt{0, 10}, 1, 0, 4},
		{amt{0, -10}, 1, 0, -4},
		{amt{1, 3}, 0, 100, 6},
		{amt{0, 10}, 1, 99, 4},
		{amt{0, 10}, 1, 100, 5},
		{amt{1, 100}, 2, 50, 625},
		{amt{1, 100}, 2, 100, 400},
		{amt{2, 400}, 1, 100, 100},
		{amt{1, 0}, 0, 0, 0},
		{amt{0, 0}, 5, 0, 0},
		// halves are rounded away from zero
		{amt{0, 499}, 5, 0, 0},
		{amt{0, 500}, 5, 0, 1},
		{amt{0, -499}, 5, 0, 0},
		{amt{0, -500}, 5, 0, -1},
		{amt{0, 1499}, 5, 0, 1},
		{amt{0, 1500}, 5, 0, 2},
		{amt{0, 2500}, 5, 0, 3},
		{amt{15, 499999}, 0, 0, 0},
		{amt{15, 500000}, 0, 0, 1},
		{amt{15, -500000}, 0, 0, -1},
		// amounts at the limit
		{amt{5, most / 1000}, 0, 0, most / 1000 * 1000},
		{amt{0, most / api.Million}, 15, 0, most / api.Million * api.Million},
		{amt{0, most}, 5, 0, 17592186044},
		{amt{15, most}, 0, 0, 17592186},
		{amt{15, -most}, 5, 0, -17592},
		// one currency needs no rate
		{amt{0, most}, 0, 0, most},
		{amt{0, -most}, 0, api.MaxHour, -most},
		{amt{3, 7}, 3, 0, 7},
		{amt{2, -7}, 2, 49, -7},
		{amt{1, 7}, 1, 0, 7},
		{amt{15, most}, 15, 0, most},
	} {
		if n, e := Convert(table(), one(x.c), x.to, x.hour); n != x.want || e != api.OK {
			t.Errorf("Convert(%v, %d, %d) = %d, %d, want %d", x.c, x.to, x.hour, n, e, x.want)
		}
	}
}

func TestConvertErrors(t *testing.T) { // P4.3
	for _, x := range []struct {
		c        amt
		to, hour int
		want     api.Errno
	}{
		{amt{0, most + 1}, 1, 0, api.ErrRange},
		{amt{0, -most - 1}, 1, 0, api.ErrRange},
		{amt{0, math.MinInt}, 1, 0, api.ErrRange},
		{amt{0, math.MaxInt}, 1, 0, api.ErrRange},
		{amt{0, 1}, 1, -1, api.ErrRange},
		{amt{0, 1}, 1, api.MaxHour + 1, api.ErrRange},
		{amt{16, 1}, 0, 0, api.ErrCurrency},
		{amt{-1, 1}, 0, 0, api.ErrCurrency},
		{amt{0, 1}, 16, 0, api.ErrCurrency},
		{amt{0, 1}, -1, 0, api.ErrCurrency},
		{amt{3, 1}, 0, 0, api.ErrCurrency},
		{amt{0, 1}, 3, 0, api.ErrCurrency},
		{amt{3, 1}, 4, 0, api.ErrCurrency},
		{amt{1, 1}, 2, 49, api.ErrCurrency},
		{amt{2, 1}, 1, 49, api.ErrCurrency},
		{amt{3, 0}, 0, 0, api.ErrCurrency},
		{amt{1, most}, 0, 0, api.ErrOverflow},
		{amt{5, most/1000 + 1}, 0, 0, api.ErrOverflow},
		{amt{5, -most/1000 - 1}, 0, 0, api.ErrOverflow},
		{amt{0, most/api.Million + 1}, 15, 0, api.ErrOverflow},
		{amt{5, most}, 15, 0, api.ErrOverflow},
		// in one currency, too
		{amt{0, most + 1}, 0, 0, api.ErrRange},
		{amt{3, 1}, 3, -1, api.ErrRange},
		{amt{3, 1}, 3, api.MaxHour + 1, api.ErrRange},
		{amt{16, 1}, 16, 0, api.ErrCurrency},
		{amt{-1, 1}, -1, 0, api.ErrCurrency},
		// several errors at once
		{amt{16, most + 1}, 0, 0, api.ErrRange},
		{amt{0, most + 1}, 16, 0, api.ErrRange},
		{amt{3, most + 1}, 0, 0, api.ErrRange},
		{amt{16, 1}, 16, -1, api.ErrRange},
		{amt{3, 1}, 0, -1, api.ErrRange},
		{amt{5, most}, 3, 0, api.ErrCurrency},
		{amt{5, most}, 16, 0, api.ErrCurrency},
	} {
		if n, e := Convert(table(), one(x.c), x.to, x.hour); n != 0 || e != x.want {
			t.Errorf("Convert(%v, %d, %d) = %d, %d, want %d", x.c, x.to, x.hour, n, e, x.want)
		}
	}
}

// nearest returns a * num / den, rounded to the nearest whole number, and halves away from zero: a half is added to the exact quotient, and the rest cut off.
func nearest(a, num, den int) *big.Int {
	n := new(big.Int).Mul(big.NewInt(int64(a)), big.NewInt(int64(2*num)))
	if a < 0 {
		n.Sub(n, big.NewInt(int64(den)))
	} else {
		n.Add(n, big.NewInt(int64(den)))
	}
	return n.Quo(n, big.NewInt(int64(2*den)))
}

// TestConvertAll converts amounts of all sizes between all currencies, and holds them against exact quotients that are rounded once.
func TestConvertAll(t *testing.T) { // P4.3, P4.6
	l := rates(rate{1, 0, 2500000}, rate{2, 0, 400000}, rate{3, 0, api.MaxPerUnit}, rate{4, 0, 1}, rate{5, 0, 999983}, rate{6, 0, 3}, rate{7, 0, 999999937}, rate{8, 0, api.Million})
	worth := []int{api.Million}
	for _, r := range l {
		worth = append(worth, r.PerUnit)
	}
	amounts := []int{most - 1, most}
	for a := range 40 {
		amounts = append(amounts, a, 100+17*a)
	}
	for size := 1000; size < most/2; size *= 7 {
		amounts = append(amounts, size, size+1, size+size/2)
	}
	for from := range worth {
		for to := range worth {
			for _, a := range amounts {
				for _, signed := range []int{a, -a} {
					want, wantE := nearest(signed, worth[from], worth[to]), api.OK
					if want.CmpAbs(big.NewInt(most)) > 0 {
						want, wantE = new(big.Int), api.ErrOverflow
					}
					if n, e := Convert(l, one(amt{from, signed}), to, 9); int64(n) != want.Int64() || e != wantE {
						t.Fatalf("%d of %d in %d: %d, %d, want %s", signed, from, to, n, e, want)
					}
				}
			}
		}
	}
}

// TestRoundedOnce has results that would differ if they were rounded in the base currency as well, or if amounts were added up before they are converted.
func TestRoundedOnce(t *testing.T) { // P4.4, P4.6
	if n, e := Convert(table(), one(amt{1, 1}), 2, 50); n != 6 || e != api.OK { // 6.25; by way of 3 it would be 8
		t.Errorf("Convert: %d, %d", n, e)
	}
	for i, x := range []struct {
		l              []amt
		to, hour, want int
	}{
		{[]amt{{1, 3}, {1, 3}}, 0, 0, 16},   // 15 together
		{[]amt{{1, 1}, {1, 1}}, 2, 50, 12},  // 12.5 together
		{[]amt{{1, 3}, {1, -1}}, 0, 0, 5},   // 8 and -3
		{[]amt{{1, 1}, {2, 2}}, 0, 50, 4},   // 3 and 1; 3.3 together
		{[]amt{{1, 3}, {2, -20}}, 0, 50, 0}, // 8 and -8; -0.5 together
	} {
		if n, e := Total(table(), cash(x.l...), x.to, x.hour); n != x.want || e != api.OK {
			t.Errorf("case %d: %d, %d, want %d", i, n, e, x.want)
		}
	}
}

func TestTotal(t *testing.T) { // P4.4
	for i, x := range []struct {
		l              []amt
		to, hour, want int
	}{
		{[]amt{{1, 3}, {0, -1}, {1, 3}}, 0, 0, 15},
		{[]amt{{1, 3}, {0, 10}, {2, 10}}, 1, 51, 3 + 4 + 2},
		{[]amt{{1, 3}, {0, 10}, {2, 10}}, 1, 100, 3 + 5 + 3},
		{[]amt{{3, 4}, {3, -9}}, 3, 0, -5},
		{[]amt{{0, 0}}, 5, 0, 0},
		// for no elements the other arguments do not count
		{nil, 0, 0, 0},
		{nil, 3, 0, 0},
		{nil, 16, 0, 0},
		{nil, -1, 0, 0},
		{nil, 0, -1, 0},
		{nil, 0, api.MaxHour + 1, 0},
		{nil, math.MaxInt, math.MinInt, 0},
		// only the sum of all elements counts
		{[]amt{{0, most}, {0, 1}, {0, -1}}, 0, 0, most},
		{[]amt{{0, -most}, {0, -most}, {0, most}}, 0, 0, -most},
		{times(api.MaxList, amt{1, 1}), 0, 0, 3 * api.MaxList},
		{times(api.MaxList, amt{0, most / api.MaxList}), 0, 0, most},
	} {
		l := cash(x.l...)
		if n, e := Total(table(), l, x.to, x.hour); n != x.want || e != api.OK {
			t.Errorf("case %d: %d, %d, want %d", i, n, e, x.want)
		}
		unchanged(t, cash(x.l...), l)
	}
	if n, e := Total(table(), []api.Cash{}, 16, -1); n != 0 || e != api.OK {
		t.Errorf("of an empty slice: %d, %d", n, e)
	}
}

func TestTotalErrors(t *testing.T) { // P4.4
	for i, x := range []struct {
		l        []amt
		to, hour int
		want     api.Errno
	}{
		{times(api.MaxList+1, amt{0, 0}), 0, 0, api.ErrLimit},
		{[]amt{{0, 1}}, 16, 0, api.ErrCurrency},
		{[]amt{{0, 1}}, -1, 0, api.ErrCurrency},
		{[]amt{{0, 1}}, 3, 0, api.ErrCurrency},
		{[]amt{{0, 1}}, 0, -1, api.ErrRange},
		{[]amt{{0, 1}}, 0, api.MaxHour + 1, api.ErrRange},
		{[]amt{{0, 1}, {0, most + 1}}, 0, 0, api.ErrRange},
		{[]amt{{0, 1}, {0, math.MinInt}, {0, math.MinInt}}, 0, 0, api.ErrRange},
		{[]amt{{0, 1}, {16, 1}}, 0, 0, api.ErrCurrency},
		{[]amt{{0, 1}, {5, most}}, 0, 0, api.ErrOverflow},
		{[]amt{{0, most}, {0, 1}}, 0, 0, api.ErrOverflow},
		{[]amt{{0, -most}, {0, -1}}, 0, 0, api.ErrOverflow},
		{times(api.MaxList, amt{0, most}), 0, 0, api.ErrOverflow},
		{times(api.MaxList, amt{0, -most}), 0, 0, api.ErrOverflow},
		// the first element that has an error
		{[]amt{{3, 1}, {0, most + 1}}, 0, 0, api.ErrCurrency},
		{[]amt{{0, most + 1}, {3, 1}}, 0, 0, api.ErrRange},
		{[]amt{{5, most}, {0, most + 1}}, 0, 0, api.ErrOverflow},
		{[]amt{{5, most}, {3, 1}}, 0, 0, api.ErrOverflow},
		{[]amt{{16, most + 1}, {3, 1}}, 0, 0, api.ErrRange},
		// an error of an element comes before that of the sum, and the limit before both
		{[]amt{{0, most}, {0, most}, {3, 1}}, 0, 0, api.ErrCurrency},
		{[]amt{{0, most}, {0, most}, {0, most + 1}}, 0, 0, api.ErrRange},
		{times(api.MaxList, amt{0, 1}, amt{16, most + 1}), 0, 0, api.ErrLimit},
		{times(api.MaxList+1, amt{0, most}), 16, -1, api.ErrLimit},
	} {
		l := cash(x.l...)
		if n, e := Total(table(), l, x.to, x.hour); n != 0 || e != x.want {
			t.Errorf("case %d: %d, %d, want %d", i, n, e, x.want)
		}
		unchanged(t, cash(x.l...), l)
	}
}

// negated returns l with negated amounts. One that is not valid stays so, though the least int is its own negative.
func negated(l []api.Cash) []api.Cash {
	l = slices.Clone(l)
	for i := range l {
		l[i].Amount *= -1
	}
	return l
}

// checkBalance holds against want the balance of rows: of all of them, of two pieces that are added, and of one from which the other one, negated, is subtracted.
func checkBalance(t *testing.T, i int, rows, want []amt, wantE api.Errno) {
	t.Helper()
	whole := cash(rows...)
	if l, e := Normalize(whole); !slices.Equal(l, cash(want...)) || e != wantE {
		t.Errorf("case %d: Normalize: %v, %d, want %v, %d", i, l, e, want, wantE)
	}
	unchanged(t, cash(rows...), whole)
	for at := 0; at <= len(rows); at = 2*at + 1 {
		a, b := cash(rows[:at]...), cash(rows[at:]...)
		less := negated(b)
		if l, e := Add(a, b); !slices.Equal(l, cash(want...)) || e != wantE {
			t.Errorf("case %d: Add at %d: %v, %d, want %v, %d", i, at, l, e, want, wantE)
		}
		if l, e := Sub(a, less); !slices.Equal(l, cash(want...)) || e != wantE {
			t.Errorf("case %d: Sub at %d: %v, %d, want %v, %d", i, at, l, e, want, wantE)
		}
		unchanged(t, cash(rows[:at]...), a)
		unchanged(t, cash(rows[at:]...), b)
		unchanged(t, negated(b), less)
	}
}

func TestBalances(t *testing.T) { // P4.5
	for i, x := range []struct{ l, want []amt }{
		{nil, nil},
		{[]amt{{1, 5}, {0, 2}, {1, -5}}, []amt{{0, 2}}},
		{[]amt{{0, 0}}, nil},
		{[]amt{{3, 0}, {4, 1}}, []amt{{4, 1}}},
		{[]amt{{7, 1}, {7, 2}, {7, 3}}, []amt{{7, 6}}},
		{[]amt{{7, 1}, {7, -1}}, nil},
		{[]amt{{15, 1}, {0, 1}, {8, 1}, {1, 1}}, []amt{{0, 1}, {1, 1}, {8, 1}, {15, 1}}},
		// different currencies do not meet
		{[]amt{{1, 5}, {2, -5}}, []amt{{1, 5}, {2, -5}}},
		{[]amt{{2, most}, {1, most}}, []amt{{1, most}, {2, most}}},
		// only the sum of all elements counts
		{[]amt{{2, most}, {0, 4}, {2, 1}, {2, -2}}, []amt{{0, 4}, {2, most - 1}}},
		{[]amt{{2, -most}, {2, -1}, {2, 1}}, []amt{{2, -most}}},
		{times(api.MaxList, amt{9, most / api.MaxList}), []amt{{9, most}}},
	} {
		checkBalance(t, i, x.l, x.want, api.OK)
	}
}

func TestBalanceErrors(t *testing.T) { // P4.5
	for i, x := range []struct {
		l    []amt
		want api.Errno
	}{
		{times(api.MaxList+1, amt{0, 0}), api.ErrLimit},
		{[]amt{{16, 1}}, api.ErrCurrency},
		{[]amt{{-1, 1}}, api.ErrCurrency},
		{[]amt{{0, 1}, {math.MaxInt, 0}}, api.ErrCurrency},
		{[]amt{{math.MinInt, 0}}, api.ErrCurrency},
		{[]amt{{0, most + 1}}, api.ErrRange},
		{[]amt{{0, 1}, {0, -most - 1}}, api.ErrRange},
		{[]amt{{0, math.MinInt}}, api.ErrRange},
		{[]amt{{0, math.MaxInt}}, api.ErrRange},
		{[]amt{{3, most + 1}, {3, -2}}, api.ErrRange},
		{[]amt{{3, math.MinInt}, {3, math.MinInt}}, api.ErrRange},
		{[]amt{{2, most}, {2, 1}}, api.ErrOverflow},
		{[]amt{{15, -most}, {15, -1}}, api.ErrOverflow},
		{[]amt{{0, 4}, {2, most}, {2, 1}}, api.ErrOverflow},
		{times(api.MaxList, amt{9, most}), api.ErrOverflow},
		{times(api.MaxList, amt{9, -most}), api.ErrOverflow},
		// the first element that has an error
		{[]amt{{16, most + 1}}, api.ErrCurrency},
		{[]amt{{0, most + 1}, {16, 0}}, api.ErrRange},
		{[]amt{{16, 0}, {0, most + 1}}, api.ErrCurrency},
		// an error of an element comes before that of a sum, and the limit before both
		{[]amt{{0, most}, {0, most}, {16, 0}}, api.ErrCurrency},
		{[]amt{{0, most}, {0, most}, {0, most + 1}}, api.ErrRange},
		{times(api.MaxList, amt{0, most}, amt{16, 0}), api.ErrLimit},
		{times(api.MaxList, amt{0, most}, amt{0, most + 1}), api.ErrLimit},
	} {
		checkBalance(t, i, x.l, nil, x.want)
	}
}

func TestAddAndSub(t *testing.T) { // P4.5
	for i, x := range []struct{ a, b, sum, difference []amt }{
		{[]amt{{1, 5}}, []amt{{0, 1}, {1, 5}}, []amt{{0, 1}, {1, 10}}, []amt{{0, -1}}},
		{[]amt{{1, 5}}, nil, []amt{{1, 5}}, []amt{{1, 5}}},
		{nil, []amt{{1, 5}}, []amt{{1, 5}}, []amt{{1, -5}}},
		{nil, nil, nil, nil},
		{[]amt{{3, 2}}, []amt{{2, 3}}, []amt{{2, 3}, {3, 2}}, []amt{{2, -3}, {3, 2}}},
		{[]amt{{4, most}}, []amt{{5, -most}}, []amt{{4, most}, {5, -most}}, []amt{{4, most}, {5, most}}},
		// lists that are not balances
		{[]amt{{3, 2}, {1, 0}, {3, 2}}, []amt{{3, 1}, {1, 4}, {3, 1}}, []amt{{1, 4}, {3, 6}}, []amt{{1, -4}, {3, 2}}},
	} {
		if l, e := Add(cash(x.a...), cash(x.b...)); !slices.Equal(l, cash(x.sum...)) || e != api.OK {
			t.Errorf("case %d: Add: %v, %d", i, l, e)
		}
		if l, e := Sub(cash(x.a...), cash(x.b...)); !slices.Equal(l, cash(x.difference...)) || e != api.OK {
			t.Errorf("case %d: Sub: %v, %d", i, l, e)
		}
	}
	a, b := cash(amt{4, most}), cash(amt{4, -most})
	if l, e := Add(a, b); len(l) != 0 || e != api.OK {
		t.Errorf("Add: %v, %d", l, e)
	}
	if l, e := Sub(a, b); len(l) != 0 || e != api.ErrOverflow {
		t.Errorf("Sub: %v, %d", l, e)
	}
}

// TestErrorsOfTwoLists has errors in both lists: those of the first one come first, but the limit is that of both together.
func TestErrorsOfTwoLists(t *testing.T) { // P4.5
	half := times(api.MaxList/2, amt{1, 1})
	for i, x := range []struct {
		a, b []amt
		want api.Errno
	}{
		{[]amt{{16, 1}}, []amt{{0, most + 1}}, api.ErrCurrency},
		{[]amt{{0, most + 1}}, []amt{{16, 1}}, api.ErrRange},
		{[]amt{{0, math.MinInt}}, []amt{{0, math.MinInt}}, api.ErrRange},
		{[]amt{{0, -most}}, []amt{{0, math.MinInt}}, api.ErrRange},
		{nil, []amt{{16, math.MinInt}}, api.ErrCurrency},
		{[]amt{{0, most}, {0, most}}, []amt{{16, 1}}, api.ErrCurrency},
		{[]amt{{0, most}, {0, most}}, []amt{{0, most + 1}}, api.ErrRange},
		{half, half, api.OK},
		{half, times(1, amt{16, most + 1}, half...), api.ErrLimit},
		{times(1, amt{16, most + 1}, half...), half, api.ErrLimit},
		{times(1, amt{0, most + 1}, half...), half, api.ErrLimit},
	} {
		if l, e := Add(cash(x.a...), cash(x.b...)); e != x.want || e != api.OK && len(l) > 0 {
			t.Errorf("case %d: Add: %v, %d, want %d", i, l, e, x.want)
		}
		if l, e := Sub(cash(x.a...), cash(x.b...)); e != x.want || e != api.OK && len(l) > 0 {
			t.Errorf("case %d: Sub: %v, %d, want %d", i, l, e, x.want)
		}
	}
}

// TestMemory changes results, which must neither reach the arguments nor later results.
func TestMemory(t *testing.T) { // P4.5
	a, b := cash(amt{0, 2}, amt{1, 5}), cash(amt{2, 4}, amt{3, 1})
	for i, call := range []func() ([]api.Cash, api.Errno){
		func() ([]api.Cash, api.Errno) { return Normalize(a) },
		func() ([]api.Cash, api.Errno) { return Add(a, nil) },
		func() ([]api.Cash, api.Errno) { return Add(nil, b) },
		func() ([]api.Cash, api.Errno) { return Add(a, b) },
		func() ([]api.Cash, api.Errno) { return Sub(a, nil) },
		func() ([]api.Cash, api.Errno) { return Sub(a, b) },
	} {
		first, _ := call()
		want := slices.Clone(first)
		for j := range first {
			first[j] = one(amt{9, 9})
		}
		second, e := call()
		if !slices.Equal(second, want) || len(want) < 2 || e != api.OK {
			t.Errorf("case %d: %v, %d, want %v", i, second, e, want)
		}
		unchanged(t, cash(amt{0, 2}, amt{1, 5}), a)
		unchanged(t, cash(amt{2, 4}, amt{3, 1}), b)
	}
}
