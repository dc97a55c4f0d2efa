package split

import (
	"math"
	"math/big"
	"slices"
	"testing"

	"treaty/api"
)

const most = api.MaxAmount

func TestSplit(t *testing.T) { // P2.1
	for _, x := range []struct {
		a             int
		weights, want []int
	}{
		{10, []int{1, 1, 1}, []int{4, 3, 3}},
		{-10, []int{1, 1, 1}, []int{-4, -3, -3}},
		{11, []int{1, 1, 1}, []int{4, 4, 3}},
		{-11, []int{1, 1, 1}, []int{-4, -4, -3}},
		{2, []int{1, 0, 1, 2}, []int{1, 0, 0, 1}},
		{7, []int{3, 5, 2}, []int{2, 4, 1}},
		{1, []int{1, 2}, []int{0, 1}},
		{-1, []int{1, 2}, []int{0, -1}},
		// the greatest remainder is not that of the greatest weight
		{3, []int{5, 1, 4}, []int{2, 0, 1}},
		{4, []int{6, 1, 3}, []int{3, 0, 1}},
		{8, []int{7, 2, 2}, []int{5, 2, 1}},
		// among equal remainders the first one
		{1, []int{1, 1}, []int{1, 0}},
		{-1, []int{1, 1}, []int{-1, 0}},
		{3, []int{0, 2, 0, 2, 2, 2}, []int{0, 1, 0, 1, 1, 0}},
		{5, []int{1, 3, 1, 1}, []int{1, 2, 1, 1}},
		// nothing is left over
		{6, []int{1, 2, 3}, []int{1, 2, 3}},
		{0, []int{5, 0}, []int{0, 0}},
		{9, []int{4}, []int{9}},
		{5, []int{0, 0, most}, []int{0, 0, 5}},
		{most, []int{1}, []int{most}},
		{-most, []int{most}, []int{-most}},
		{most, []int{most, most}, []int{most / 2, most / 2}},
		{-most, []int{most, 0, most, most}, []int{-most/3 - 1, 0, -most / 3, -most / 3}},
	} {
		before := slices.Clone(x.weights)
		if got, e := Split(x.a, x.weights); !slices.Equal(got, x.want) || e != api.OK {
			t.Errorf("Split(%d, %d) = %d, %d, want %d", x.a, x.weights, got, e, x.want)
		}
		if !slices.Equal(before, x.weights) {
			t.Errorf("Split(%d, %d) has changed its argument", x.a, before)
		}
	}
}

// few and many are as many elements as there may be, and one more.
func few(n int) []int  { return slices.Repeat([]int{n}, api.MaxItems) }
func many(n int) []int { return slices.Repeat([]int{n}, api.MaxItems+1) }

func TestSplitErrors(t *testing.T) { // P2.1
	for _, x := range []struct {
		a       int
		weights []int
		want    api.Errno
	}{
		{1, nil, api.ErrEmpty},
		{0, []int{}, api.ErrEmpty},
		{1, many(1), api.ErrLimit},
		{most + 1, []int{1}, api.ErrRange},
		{-most - 1, []int{1}, api.ErrRange},
		{math.MaxInt, []int{1}, api.ErrRange},
		{math.MinInt, []int{1}, api.ErrRange},
		{1, []int{-1}, api.ErrRange},
		{1, []int{2, -1}, api.ErrRange},
		{1, []int{-1, 2}, api.ErrRange},
		{1, []int{most + 1}, api.ErrRange},
		{1, []int{1, most + 1}, api.ErrRange},
		{1, []int{math.MinInt}, api.ErrRange},
		{1, []int{math.MaxInt, math.MaxInt, 2}, api.ErrRange},
		{1, []int{0}, api.ErrZero},
		{0, []int{0, 0}, api.ErrZero},
		{1, few(0), api.ErrZero},
		// several errors at once
		{most + 1, nil, api.ErrEmpty},
		{most + 1, many(1), api.ErrLimit},
		{1, many(-1), api.ErrLimit},
		{1, many(most + 1), api.ErrLimit},
		{1, many(0), api.ErrLimit},
		{most + 1, []int{0}, api.ErrRange},
		{-most - 1, []int{0, 0}, api.ErrRange},
		{1, []int{1, -1}, api.ErrRange},
		{1, []int{0, math.MinInt, math.MinInt}, api.ErrRange},
	} {
		if got, e := Split(x.a, x.weights); len(got) != 0 || e != x.want {
			t.Errorf("Split(%d, %d) = %d, %d, want %d", x.a, x.weights, got, e, x.want)
		}
	}
}

// byDefinition divides as the chapter describes it, with exact numbers, and looks for the greatest remainder anew for each unit.
func byDefinition(a int, weights []int) []int {
	whole := new(big.Int)
	for _, w := range weights {
		whole.Add(whole, big.NewInt(int64(w)))
	}
	left := new(big.Int).Abs(big.NewInt(int64(a)))
	size := new(big.Int).Set(left)
	parts := make([]int, len(weights))
	rests := make([]*big.Int, len(weights))
	for i, w := range weights {
		product := new(big.Int).Mul(size, big.NewInt(int64(w)))
		quotient, rest := new(big.Int).QuoRem(product, whole, new(big.Int))
		parts[i], rests[i] = int(quotient.Int64()), rest
		left.Sub(left, quotient)
	}
	for range left.Int64() {
		best := 0
		for i := range rests {
			if rests[i].Cmp(rests[best]) > 0 {
				best = i
			}
		}
		parts[best]++
		rests[best] = big.NewInt(-1)
	}
	if a < 0 {
		for i := range parts {
			parts[i] = -parts[i]
		}
	}
	return parts
}

// checkSplit holds Split against its definition, and the parts against what they are for.
func checkSplit(t *testing.T, a int, weights []int) {
	t.Helper()
	parts, e := Split(a, weights)
	if want := byDefinition(a, weights); e != api.OK || !slices.Equal(parts, want) {
		t.Fatalf("Split(%d, %d) = %d, %d, want %d", a, weights, parts, e, want)
	}
	added, whole := 0, 0
	for i := range weights {
		added += parts[i]
		whole += weights[i]
		if weights[i] == 0 && parts[i] != 0 {
			t.Errorf("Split(%d, %d) = %d: a part with the weight 0", a, weights, parts)
		}
	}
	if added != a {
		t.Errorf("Split(%d, %d) = %d adds up to %d", a, weights, parts, added)
	}
	for i := range weights {
		quota := new(big.Int).Mul(big.NewInt(int64(a)), big.NewInt(int64(weights[i])))
		away := new(big.Int).Mul(big.NewInt(int64(parts[i])), big.NewInt(int64(whole)))
		if away.Sub(away, quota).CmpAbs(big.NewInt(int64(whole))) >= 0 {
			t.Errorf("Split(%d, %d) = %d: part %d is not near its quota", a, weights, parts, i)
		}
	}
	if !Check(a, weights, parts) {
		t.Errorf("Check(%d, %d, %d) is false", a, weights, parts)
	}
}

// each calls do with all lists of up to length numbers from 0 to top.
func each(length, top int, do func([]int)) {
	lists := [][]int{nil}
	for range length {
		var longer [][]int
		for _, l := range lists {
			for n := range top + 1 {
				longer = append(longer, append(slices.Clone(l), n))
			}
		}
		for _, l := range longer {
			do(l)
		}
		lists = longer
	}
}

func TestSmallSplits(t *testing.T) { // P2.1, P2.2, P2.4
	each(4, 4, func(weights []int) {
		if slices.Max(weights) > 0 {
			for a := -9; a <= 9; a++ {
				checkSplit(t, a, weights)
			}
		}
	})
}

// TestLargeSplits has weights that are more than MaxAmount together, and products of up to 88 bits.
func TestLargeSplits(t *testing.T) { // P2.1, P2.2, P2.4
	rising, falling, mixed := few(0), few(0), few(0)
	for i := range api.MaxItems {
		rising[i] = most - api.MaxItems + i + 1
		falling[i] = most >> (i % 45)
		mixed[i] = i * 8191 * 131071 * 524287 % (most + 1)
	}
	for _, weights := range [][]int{
		few(most), few(1), rising, falling, mixed,
		{most}, {most, most - 1, 1}, {1, most}, {most, 0, 1}, {most / 3, most / 3, most}, {0, most - 1, most - 1, 0, most},
	} {
		for _, a := range []int{0, 1, 2, 63, 65, api.Million, 1<<32 - 1, 1 << 33, most/3 + 1, most - 63, most - 1, most} {
			checkSplit(t, a, weights)
			checkSplit(t, -a, weights)
		}
	}
}

func TestCheck(t *testing.T) { // P2.2
	for _, x := range []struct {
		a              int
		weights, parts []int
		want           bool
	}{
		{10, []int{1, 1, 1}, []int{4, 3, 3}, true},
		{-10, []int{1, 1, 1}, []int{-4, -3, -3}, true},
		{0, []int{1, 1}, []int{0, 0}, true},
		{10, []int{1, 1, 1}, []int{3, 4, 3}, false},
		{10, []int{1, 1, 1}, []int{3, 3, 4}, false},
		{10, []int{1, 1, 1}, []int{4, 4, 3}, false},
		{10, []int{1, 1, 1}, []int{-4, -3, -3}, false},
		{10, []int{1, 1, 1}, []int{4, 3}, false},
		{10, []int{1, 1, 1}, []int{4, 3, 3, 0}, false},
		{10, []int{1, 1, 1}, nil, false},
		{5, []int{1, 0}, []int{5}, false},
		// what Split refuses has no parts, not even none
		{0, nil, nil, false},
		{0, []int{}, []int{}, false},
		{0, []int{0}, []int{0}, false},
		{0, []int{0}, nil, false},
		{0, []int{-1}, nil, false},
		{most + 1, []int{1}, []int{most + 1}, false},
		{most + 1, []int{1}, nil, false},
		{0, many(1), many(0), false},
		{0, many(1), nil, false},
	} {
		weights, parts := slices.Clone(x.weights), slices.Clone(x.parts)
		if got := Check(x.a, x.weights, x.parts); got != x.want {
			t.Errorf("Check(%d, %d, %d) = %t", x.a, x.weights, x.parts, got)
		}
		if !slices.Equal(weights, x.weights) || !slices.Equal(parts, x.parts) {
			t.Errorf("Check(%d, %d, %d) has changed an argument", x.a, weights, parts)
		}
	}
}

func TestReduce(t *testing.T) { // P2.3
	for _, x := range []struct {
		caps []int
		most int
		want []int
		e    api.Errno
	}{
		{[]int{5, 0, 10}, 6, []int{2, 0, 4}, api.OK},
		{[]int{1, 1, 1}, 2, []int{1, 1, 0}, api.OK},
		{[]int{1, 2}, 4, []int{1, 2}, api.OK},
		{[]int{1, 2}, 3, []int{1, 2}, api.OK},
		{[]int{1, 2}, 2, []int{1, 1}, api.OK},
		{[]int{3}, 0, []int{0}, api.OK},
		{[]int{3}, 2, []int{2}, api.OK},
		{[]int{0, 0}, 0, []int{0, 0}, api.OK},
		{[]int{0, 0}, 5, []int{0, 0}, api.OK},
		{nil, 0, nil, api.OK},
		{nil, 5, nil, api.OK},
		{[]int{}, most, nil, api.OK},
		{[]int{most}, most, []int{most}, api.OK},
		{[]int{most, 0, most}, most, []int{most / 2, 0, most / 2}, api.OK},
		{few(most), most, few(most / api.MaxItems), api.OK},
		{few(2), 128, few(2), api.OK},
		{many(0), 0, nil, api.ErrLimit},
		{many(1), most, nil, api.ErrLimit},
		{[]int{1}, -1, nil, api.ErrRange},
		{[]int{1}, most + 1, nil, api.ErrRange},
		{[]int{1}, math.MinInt, nil, api.ErrRange},
		{[]int{1}, math.MaxInt, nil, api.ErrRange},
		{nil, -1, nil, api.ErrRange},
		{nil, most + 1, nil, api.ErrRange},
		{[]int{-1}, 5, nil, api.ErrRange},
		{[]int{3, -1}, 5, nil, api.ErrRange},
		{[]int{3, -1}, 1, nil, api.ErrRange},
		{[]int{most + 1}, 5, nil, api.ErrRange},
		{[]int{0, most + 1}, 5, nil, api.ErrRange},
		{[]int{math.MaxInt, math.MaxInt, 2}, 5, nil, api.ErrRange},
		// several errors at once
		{many(0), -1, nil, api.ErrLimit},
		{many(-1), 1, nil, api.ErrLimit},
		{many(most + 1), most + 1, nil, api.ErrLimit},
	} {
		before := slices.Clone(x.caps)
		if got, e := Reduce(x.caps, x.most); !slices.Equal(got, x.want) || e != x.e {
			t.Errorf("Reduce(%d, %d) = %d, %d, want %d, %d", x.caps, x.most, got, e, x.want, x.e)
		}
		if !slices.Equal(before, x.caps) {
			t.Errorf("Reduce(%d, %d) has changed its argument", before, x.most)
		}
	}
}

// TestReduceToCaps has all small lists: no part is above its cap, and the parts are caps or add up to top.
func TestReduceToCaps(t *testing.T) { // P2.3, P2.4
	each(4, 4, func(caps []int) {
		total := 0
		for _, n := range caps {
			total += n
		}
		for top := range 18 {
			parts, e := Reduce(caps, top)
			want := caps
			if total > top {
				want = byDefinition(top, caps)
			}
			if e != api.OK || !slices.Equal(parts, want) {
				t.Fatalf("Reduce(%d, %d) = %d, %d, want %d", caps, top, parts, e, want)
			}
			for i := range caps {
				if parts[i] > caps[i] {
					t.Errorf("Reduce(%d, %d) = %d: above a cap", caps, top, parts)
				}
			}
		}
	})
}

// TestMemory changes results, which must neither reach the arguments nor later results.
func TestMemory(t *testing.T) { // P2.1, P2.3
	for _, top := range []int{2, 3, 9} {
		l := []int{1, 2}
		first, _ := Reduce(l, top)
		want := slices.Clone(first)
		first[0], first[1] = 7, 7
		if second, _ := Reduce(l, top); !slices.Equal(l, []int{1, 2}) || !slices.Equal(second, want) {
			t.Errorf("Reduce(%d, %d) shares memory: %d", l, top, second)
		}
		first, _ = Split(top, l)
		want = slices.Clone(first)
		first[0], first[1] = 7, 7
		if second, _ := Split(top, l); !slices.Equal(l, []int{1, 2}) || !slices.Equal(second, want) {
			t.Errorf("Split(%d, %d) shares memory: %d", top, l, second)
		}
	}
}
