package amount

import (
	"math"
	"math/big"
	"slices"
	"testing"

	"treaty/api"
)

const most = api.MaxAmount

var modes = []int{api.TowardZero, api.Floor, api.Ceiling, api.HalfUp, api.HalfEven}

func TestValid(t *testing.T) { // P1.1
	for _, x := range []struct {
		a    int
		want bool
	}{
		{0, true}, {1, true}, {-1, true},
		{most - 1, true}, {most, true}, {most + 1, false},
		{-most + 1, true}, {-most, true}, {-most - 1, false},
		{math.MaxInt, false}, {math.MinInt, false}, {math.MinInt + 1, false},
	} {
		if got := Valid(x.a); got != x.want {
			t.Errorf("Valid(%d) = %t", x.a, got)
		}
	}
}

func TestClamp(t *testing.T) { // P1.1
	for _, x := range []struct{ a, want int }{
		{0, 0}, {7, 7}, {-7, -7},
		{most - 1, most - 1}, {most, most}, {most + 1, most},
		{-most + 1, -most + 1}, {-most, -most}, {-most - 1, -most},
		{math.MaxInt, most}, {math.MinInt, -most},
	} {
		if got := Clamp(x.a); got != x.want {
			t.Errorf("Clamp(%d) = %d, want %d", x.a, got, x.want)
		}
	}
}

// TestRounding has each quotient in all five modes, in the order of their numbers.
func TestRounding(t *testing.T) { // P1.2
	for _, x := range []struct {
		a, num, den int
		want        [5]int
	}{
		{0, 5, 7, [5]int{0, 0, 0, 0, 0}},
		{5, 0, 7, [5]int{0, 0, 0, 0, 0}},
		{12, 2, 3, [5]int{8, 8, 8, 8, 8}},
		{-12, 2, 3, [5]int{-8, -8, -8, -8, -8}},
		// halves, beside an even and an odd number
		{1, 1, 2, [5]int{0, 0, 1, 1, 0}},
		{-1, 1, 2, [5]int{0, -1, 0, -1, 0}},
		{3, 1, 2, [5]int{1, 1, 2, 2, 2}},
		{-3, 1, 2, [5]int{-1, -2, -1, -2, -2}},
		{5, 3, 6, [5]int{2, 2, 3, 3, 2}},
		{-5, 3, 6, [5]int{-2, -3, -2, -3, -2}},
		// a little less and a little more than a half
		{4, 1, 9, [5]int{0, 0, 1, 0, 0}},
		{-4, 1, 9, [5]int{0, -1, 0, 0, 0}},
		{5, 1, 9, [5]int{0, 0, 1, 1, 1}},
		{-5, 1, 9, [5]int{0, -1, 0, -1, -1}},
		{13, 1, 9, [5]int{1, 1, 2, 1, 1}},
		{-14, 1, 9, [5]int{-1, -2, -1, -2, -2}},
	} {
		for i, mode := range modes {
			if got, e := MulDiv(x.a, x.num, x.den, mode); got != x.want[i] || e != api.OK {
				t.Errorf("MulDiv(%d, %d, %d, %d) = %d, %d, want %d", x.a, x.num, x.den, mode, got, e, x.want[i])
			}
		}
	}
}

func TestMulDivErrors(t *testing.T) { // P1.2
	for _, x := range []struct {
		a, num, den, mode int
		want              api.Errno
	}{
		{1, 1, 1, 0, api.ErrKind},
		{1, 1, 1, 6, api.ErrKind},
		{1, 1, 1, -1, api.ErrKind},
		{1, 1, 1, math.MinInt, api.ErrKind},
		{1, 1, 1, math.MaxInt, api.ErrKind},
		{most + 1, 1, 1, api.Floor, api.ErrRange},
		{-most - 1, 1, 1, api.Floor, api.ErrRange},
		{math.MinInt, 1, 1, api.Floor, api.ErrRange},
		{1, -1, 1, api.Floor, api.ErrRange},
		{1, most + 1, 1, api.Floor, api.ErrRange},
		{1, math.MinInt, 1, api.Floor, api.ErrRange},
		{1, 1, -1, api.Floor, api.ErrRange},
		{1, 1, most + 1, api.Floor, api.ErrRange},
		{1, 1, math.MinInt, api.Floor, api.ErrRange},
		{1, 1, 0, api.Floor, api.ErrZero},
		{0, 0, 0, api.Floor, api.ErrZero},
		{most, 2, 1, api.Floor, api.ErrOverflow},
		{-most, 2, 1, api.Ceiling, api.ErrOverflow},
		// several errors at once
		{most + 1, -1, 0, 0, api.ErrKind},
		{1, 1, 0, 0, api.ErrKind},
		{most, most, 1, 0, api.ErrKind},
		{most + 1, 1, 0, api.Floor, api.ErrRange},
		{1, -1, 0, api.Floor, api.ErrRange},
		{1, most + 1, 0, api.Floor, api.ErrRange},
		{most + 1, most, 1, api.Floor, api.ErrRange},
		{most, most, 0, api.Floor, api.ErrZero},
	} {
		if got, e := MulDiv(x.a, x.num, x.den, x.mode); got != 0 || e != x.want {
			t.Errorf("MulDiv(%d, %d, %d, %d) = %d, %d, want 0, %d", x.a, x.num, x.den, x.mode, got, e, x.want)
		}
	}
}

// TestMulDivLimit has quotients that are valid or not, depending on how they are rounded: a half and other fractions above MaxAmount.
func TestMulDivLimit(t *testing.T) { // P1.2
	const half = 2 * (most - 1) / 3
	const more = most/2 + 5
	const less = most - 3
	for _, x := range []struct {
		a, num, den int
		fits        [5]bool
	}{
		{most - 1, half + 1, half, [5]bool{true, true, false, false, true}},
		{1 - most, half + 1, half, [5]bool{true, false, true, false, true}},
		{most - 1, more + 1, more, [5]bool{true, true, false, false, false}},
		{1 - most, more + 1, more, [5]bool{true, false, true, false, false}},
		{most - 1, less + 1, less, [5]bool{true, true, false, true, true}},
		{1 - most, less + 1, less, [5]bool{true, false, true, true, true}},
		{most, most, most, [5]bool{true, true, true, true, true}},
		{-most, most, most, [5]bool{true, true, true, true, true}},
		{most, 1, 1, [5]bool{true, true, true, true, true}},
		{1, most, 1, [5]bool{true, true, true, true, true}},
		{most, most, most - 1, [5]bool{}},
		{most, most, 1, [5]bool{}},
		{-most, most, 1, [5]bool{}},
		// quotients whose low 64 bits alone would be valid
		{most, 1 << 20, 1, [5]bool{}},
		{-most, 1 << 21, 1, [5]bool{}},
		{most, most, 3, [5]bool{}},
		// a quotient that fills 64 bits before it is rounded
		{1<<42 - 1, 1<<42 + 1, 1 << 20, [5]bool{}},
		{1 - 1<<42, 1<<42 + 1, 1 << 20, [5]bool{}},
	} {
		for i, mode := range modes {
			want, errno := most, api.OK
			if x.a < 0 {
				want = -most
			}
			if !x.fits[i] {
				want, errno = 0, api.ErrOverflow
			}
			if got, e := MulDiv(x.a, x.num, x.den, mode); got != want || e != errno {
				t.Errorf("MulDiv(%d, %d, %d, %d) = %d, %d, want %d, %d", x.a, x.num, x.den, mode, got, e, want, errno)
			}
		}
	}
}

func TestShare(t *testing.T) { // P1.3
	for _, x := range []struct {
		a, millionths, mode, want int
		e                         api.Errno
	}{
		{1000, 333333, api.HalfUp, 333, api.OK},
		{1000, 333333, api.Ceiling, 334, api.OK},
		{-1000, 333333, api.Floor, -334, api.OK},
		{3, 500000, api.HalfEven, 2, api.OK},
		{5, 500000, api.HalfEven, 2, api.OK},
		{5, 500000, api.HalfUp, 3, api.OK},
		{5, 500000, api.TowardZero, 2, api.OK},
		{77, 0, api.Ceiling, 0, api.OK},
		{77, api.Million, api.Floor, 77, api.OK},
		{77, 2 * api.Million, api.Floor, 154, api.OK},
		{most, api.Million, api.Floor, most, api.OK},
		{most, api.Million - 1, api.Floor, most - most/api.Million - 1, api.OK},
		{most, api.Million + 1, api.Floor, 0, api.ErrOverflow},
		{1, most, api.Floor, most / api.Million, api.OK},
		{most + 1, -1, 0, 0, api.ErrKind},
		{most + 1, 1, api.Floor, 0, api.ErrRange},
		{1, -1, api.Floor, 0, api.ErrRange},
		{1, most + 1, api.Floor, 0, api.ErrRange},
	} {
		if got, e := Share(x.a, x.millionths, x.mode); got != x.want || e != x.e {
			t.Errorf("Share(%d, %d, %d) = %d, %d, want %d, %d", x.a, x.millionths, x.mode, got, e, x.want, x.e)
		}
	}
}

// list returns n times a, and then the others.
func list(n, a int, others ...int) []int {
	return append(slices.Repeat([]int{a}, n), others...)
}

func TestSum(t *testing.T) { // P1.4
	for i, x := range []struct {
		l    []int
		want int
		e    api.Errno
	}{
		{nil, 0, api.OK},
		{[]int{}, 0, api.OK},
		{[]int{5}, 5, api.OK},
		{[]int{1, 2, -10}, -7, api.OK},
		{[]int{most}, most, api.OK},
		{[]int{-most}, -most, api.OK},
		{[]int{most, 1}, 0, api.ErrOverflow},
		{[]int{-most, -1}, 0, api.ErrOverflow},
		// only the sum of all elements counts
		{[]int{most, 1, -1}, most, api.OK},
		{[]int{-most, -most, most}, -most, api.OK},
		{[]int{most + 1}, 0, api.ErrRange},
		{[]int{-most - 1}, 0, api.ErrRange},
		{[]int{most + 1, -2}, 0, api.ErrRange},
		{[]int{math.MinInt, math.MinInt}, 0, api.ErrRange},
		{[]int{most, most, most + 1}, 0, api.ErrRange},
		{[]int{most + 1, most, most}, 0, api.ErrRange},
		{list(api.MaxList, 3), 3 * api.MaxList, api.OK},
		{list(api.MaxList, most/api.MaxList), most, api.OK},
		{list(api.MaxList-1, most/api.MaxList, most/api.MaxList+1), 0, api.ErrOverflow},
		{list(api.MaxList, most), 0, api.ErrOverflow},
		{list(api.MaxList, -most), 0, api.ErrOverflow},
		{list(api.MaxList-1, most, most+1), 0, api.ErrRange},
		{list(api.MaxList+1, 0), 0, api.ErrLimit},
		{list(api.MaxList, most, most+1), 0, api.ErrLimit},
	} {
		before := slices.Clone(x.l)
		if got, e := Sum(x.l); got != x.want || e != x.e {
			t.Errorf("case %d: %d, %d, want %d, %d", i, got, e, x.want, x.e)
		}
		if !slices.Equal(before, x.l) {
			t.Errorf("case %d: the argument has changed", i)
		}
	}
}

// checkQuotient compares MulDiv with exact arithmetic: the modes by their definitions, and the distance of the result from the exact quotient.
func checkQuotient(t *testing.T, a, num, den int) {
	t.Helper()
	product := new(big.Int).Mul(big.NewInt(int64(a)), big.NewInt(int64(num)))
	divisor := big.NewInt(int64(den))
	rest := new(big.Int)
	floor, _ := new(big.Int).DivMod(product, divisor, rest)
	for _, mode := range modes {
		want := new(big.Int).Set(floor)
		if roundsUp(mode, product.Sign(), floor, rest, divisor) {
			want.Add(want, big.NewInt(1))
		}
		got, e := MulDiv(a, num, den, mode)
		if want.CmpAbs(big.NewInt(most)) > 0 {
			if got != 0 || e != api.ErrOverflow {
				t.Errorf("MulDiv(%d, %d, %d, %d) = %d, %d, want ErrOverflow", a, num, den, mode, got, e)
			}
			continue
		}
		if int64(got) != want.Int64() || e != api.OK {
			t.Errorf("MulDiv(%d, %d, %d, %d) = %d, %d, want %s", a, num, den, mode, got, e, want)
		}
		distance := new(big.Int).Mul(big.NewInt(int64(got)), divisor)
		distance.Sub(distance, product)
		if distance.CmpAbs(divisor) >= 0 {
			t.Errorf("MulDiv(%d, %d, %d, %d) differs by 1 or more", a, num, den, mode)
		}
		if distance.Lsh(distance, 1); mode >= api.HalfUp && distance.CmpAbs(divisor) > 0 {
			t.Errorf("MulDiv(%d, %d, %d, %d) differs by more than a half", a, num, den, mode)
		}
	}
}

// roundsUp reports whether the quotient floor + rest / divisor, which has this sign, is rounded to floor + 1.
func roundsUp(mode, sign int, floor, rest, divisor *big.Int) bool {
	half := new(big.Int).Lsh(rest, 1).Cmp(divisor)
	switch mode {
	case api.TowardZero:
		return rest.Sign() > 0 && sign < 0
	case api.Ceiling:
		return rest.Sign() > 0
	case api.HalfUp:
		return half > 0 || half == 0 && sign > 0
	case api.HalfEven:
		return half > 0 || half == 0 && floor.Bit(0) == 1
	}
	return false
}

func TestSmallQuotients(t *testing.T) { // P1.2, P1.5
	for a := -25; a <= 25; a++ {
		for num := range 8 {
			for den := 1; den <= 12; den++ {
				checkQuotient(t, a, num, den)
			}
		}
	}
}

// TestLargeQuotients has products of up to 88 bits, of numbers near the powers of two and near MaxAmount.
func TestLargeQuotients(t *testing.T) { // P1.2, P1.5
	numbers := []int{0, 3, api.Million, most - 3, 2 * (most - 1) / 3, most / 3}
	for _, shift := range []int{1, 20, 22, 31, 32, 42, 43, 44} {
		numbers = append(numbers, 1<<shift-1, 1<<shift)
		if shift < 44 {
			numbers = append(numbers, 1<<shift+1)
		}
	}
	for _, a := range numbers {
		for _, num := range numbers {
			for _, den := range numbers {
				if den == 0 {
					continue
				}
				checkQuotient(t, a, num, den)
				checkQuotient(t, -a, num, den)
			}
		}
	}
}
