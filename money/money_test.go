package money_test

import (
	"math"
	"math/big"
	"slices"
	"testing"

	"farebox/api"
	"farebox/money"
)

// added is what Sum should tell, by another way: the sums are numbers without a bound.
func added(ns []int) (int, api.Errno) {
	sum := new(big.Int)
	for _, n := range ns {
		sum.Add(sum, big.NewInt(int64(n)))
		if !sum.IsInt64() {
			return 0, api.ErrOver
		}
	}
	return int(sum.Int64()), api.OK
}

// divided is what Split should tell of arguments that are right, by another way: a share is increased if fewer come ahead of it than units are left.
func divided(amount int, weights []int) []int {
	whole, rests := 0, 0
	for _, w := range weights {
		whole += w
	}
	for _, w := range weights {
		rests += amount * w % whole
	}
	var shares []int
	for i, w := range weights {
		rest, ahead := amount*w%whole, 0
		for j, v := range weights {
			if other := amount * v % whole; other > rest || other == rest && j < i {
				ahead++
			}
		}
		share := (amount*w - rest) / whole
		if ahead < rests/whole {
			share++
		}
		shares = append(shares, share)
	}
	return shares
}

// dice are numbers made by a fixed rule.
type dice uint64

func (d *dice) below(n int) int {
	*d = *d*6364136223846793005 + 1442695040888963407
	return int(uint64(*d)>>32) % n
}

// number is a small one, or one near an edge of the ints, or half-way to it.
func (d *dice) number() int {
	off := d.below(4)
	switch d.below(6) {
	case 0:
		return math.MaxInt - off
	case 1:
		return math.MinInt + off
	case 2:
		return math.MaxInt/2 + off
	case 3:
		return math.MinInt/2 - off
	case 4:
		return off
	default:
		return -off
	}
}

func (d *dice) numbers() []int {
	var ns []int
	for range d.below(7) {
		ns = append(ns, d.number())
	}
	return ns
}

// weights are right ones, often with a 0 or the same twice among them.
func (d *dice) weights() []int {
	top := []int{2, 4, 10, 1001}[d.below(4)]
	var ws []int
	for range 1 + d.below(16) {
		ws = append(ws, d.below(top))
	}
	ws[d.below(len(ws))] = 1 + d.below(top-1)
	return ws
}

func repeated(n, count int) []int {
	return slices.Repeat([]int{n}, count)
}

func sharesOf(amounts ...int) []api.Share {
	var ss []api.Share
	for i, a := range amounts {
		ss = append(ss, api.Share{Op: i, Amount: a})
	}
	return ss
}

func isSum(t *testing.T, ns []int, want int, we api.Errno) {
	t.Helper()
	if got, e := money.Sum(ns...); got != want || e != we {
		t.Errorf("P5.1: Sum(%v): %d, %d; should be %d, %d", ns, got, e, want, we)
	}
}

func isSplit(t *testing.T, amount int, weights []int, want ...int) {
	t.Helper()
	if got, e := money.Split(amount, weights...); !slices.Equal(got, want) || e != api.OK {
		t.Errorf("P5.2: Split(%d, %v): %v, %d; should be %v", amount, weights, got, e, want)
	}
}

func isRefused(t *testing.T, amount int, weights ...int) {
	t.Helper()
	if got, e := money.Split(amount, weights...); len(got) != 0 || e != api.ErrArg {
		t.Errorf("P5.2: Split(%d, %v): %v, %d; should be ErrArg", amount, weights, got, e)
	}
}

// isFair holds a split against all that P5.3 says of it.
func isFair(t *testing.T, amount int, weights []int) {
	t.Helper()
	shares, e := money.Split(amount, weights...)
	if e != api.OK || len(shares) != len(weights) {
		t.Fatalf("P5.2: Split(%d, %v): %v, %d", amount, weights, shares, e)
	}
	whole, sum := 0, 0
	for i, w := range weights {
		whole += w
		sum += shares[i]
	}
	if sum != amount {
		t.Fatalf("P5.3: Split(%d, %v): %v, which are %d", amount, weights, shares, sum)
	}
	for i, w := range weights {
		if shares[i] < 0 || w == 0 && shares[i] != 0 {
			t.Fatalf("P5.3: Split(%d, %v): %v", amount, weights, shares)
		}
		if off := shares[i]*whole - amount*w; off >= whole || off <= -whole {
			t.Fatalf("P5.3: Split(%d, %v): %v, number %d is a unit off", amount, weights, shares, i)
		}
		for j, v := range weights {
			if w > v && shares[i] < shares[j] {
				t.Fatalf("P5.3: Split(%d, %v): %v, number %d gets less than %d", amount, weights, shares, i, j)
			}
		}
	}
}

func isEven(t *testing.T, want bool, amounts ...int) {
	t.Helper()
	if got := money.Even(sharesOf(amounts...)...); got != want {
		t.Errorf("P5.4: Even(%v): %t", amounts, got)
	}
}

// The chapter's examples.
func TestExamples(t *testing.T) {
	isSum(t, []int{math.MaxInt, 1, -1}, 0, api.ErrOver)
	isSum(t, []int{1, -1, math.MaxInt}, math.MaxInt, api.OK)
	isSplit(t, 10, []int{1, 1, 1}, 4, 3, 3)
	isSplit(t, 100, []int{2, 0, 1}, 67, 0, 33)
	isRefused(t, 5, 0)
	isSplit(t, 0, []int{3}, 0)
}

// P5.1: no number, one, and some.
func TestSum(t *testing.T) {
	isSum(t, nil, 0, api.OK)
	isSum(t, []int{}, 0, api.OK)
	for _, n := range []int{0, 1, -1, 7, 1 << 31, 1 << 32, -1 << 32, math.MaxInt - 1, math.MaxInt, math.MinInt + 1, math.MinInt} {
		isSum(t, []int{n}, n, api.OK)
		isSum(t, []int{0, n, 0}, n, api.OK)
	}
	isSum(t, []int{2, 3, -10, 4}, -1, api.OK)
	isSum(t, []int{1 << 31, 1 << 31, 1 << 31}, 3<<31, api.OK)
	isSum(t, repeated(0, 100), 0, api.OK)
	isSum(t, repeated(-3, 1000), -3000, api.OK)
}

// P5.1: the greatest and the least sum are right, those just beside them are none.
func TestSumEdges(t *testing.T) {
	half := math.MaxInt / 2
	isSum(t, []int{math.MaxInt - 1, 1}, math.MaxInt, api.OK)
	isSum(t, []int{1, math.MaxInt - 1}, math.MaxInt, api.OK)
	isSum(t, []int{half, half, 1}, math.MaxInt, api.OK)
	isSum(t, []int{half + 1, half}, math.MaxInt, api.OK)
	isSum(t, []int{math.MinInt + 1, -1}, math.MinInt, api.OK)
	isSum(t, []int{-1, math.MinInt + 1}, math.MinInt, api.OK)
	isSum(t, []int{-half - 1, -half - 1}, math.MinInt, api.OK)
	isSum(t, []int{math.MaxInt, math.MinInt}, -1, api.OK)
	isSum(t, []int{math.MinInt, math.MaxInt}, -1, api.OK)
	for _, ns := range [][]int{
		{math.MaxInt, 1}, {1, math.MaxInt}, {math.MaxInt - 1, 2}, {half + 1, half + 1}, {half, half, 2}, {math.MaxInt, math.MaxInt},
		{math.MinInt, -1}, {-1, math.MinInt}, {math.MinInt + 1, -2}, {-half - 1, -half - 2}, {math.MinInt, math.MinInt}, {math.MinInt, -math.MaxInt},
	} {
		isSum(t, ns, 0, api.ErrOver)
	}
}

// P5.1: an overflow on the way counts, though the numbers behind it would take it back; their order counts.
func TestSumOnTheWay(t *testing.T) {
	isSum(t, []int{math.MaxInt, 1, math.MinInt}, 0, api.ErrOver)
	isSum(t, []int{math.MaxInt, math.MinInt, 1}, 0, api.OK)
	isSum(t, []int{math.MinInt, -1, 1}, 0, api.ErrOver)
	isSum(t, []int{math.MinInt, 1, -1}, math.MinInt, api.OK)
	isSum(t, []int{math.MinInt, math.MinInt}, 0, api.ErrOver)
	isSum(t, []int{math.MaxInt, math.MaxInt, 2}, 0, api.ErrOver)
	isSum(t, []int{5, -5, math.MaxInt, 1, -1, 0, -7}, 0, api.ErrOver)
	isSum(t, []int{math.MaxInt, -7, 7, -1}, math.MaxInt-1, api.OK)
	isSum(t, []int{math.MaxInt, 0, 0, 1}, 0, api.ErrOver)
}

// P5.1: many numbers near the edges, against numbers without a bound; both outcomes must have come.
func TestSumMany(t *testing.T) {
	d := dice(5)
	count := map[api.Errno]int{}
	for range 50000 {
		ns := d.numbers()
		want, we := added(ns)
		isSum(t, ns, want, we)
		count[we]++
	}
	if count[api.OK] < 1000 || count[api.ErrOver] < 1000 {
		t.Errorf("P5.1: outcomes: %v", count)
	}
}

// P5.2: amounts from 0 to 2^31.
func TestSplitAmount(t *testing.T) {
	for _, amount := range []int{0, 1, 2, 1000, 1<<31 - 1, 1 << 31} {
		isSplit(t, amount, []int{1}, amount)
		isSplit(t, amount, []int{0, 1000}, 0, amount)
	}
	isSplit(t, 1<<31, []int{1, 1}, 1<<30, 1<<30)
	isSplit(t, 1<<31, []int{1, 1, 1}, 715827883, 715827883, 715827882)
	for _, amount := range []int{-1, -2, math.MinInt, 1<<31 + 1, 1 << 32, 1<<32 + 5, math.MaxInt} {
		isRefused(t, amount, 1)
		isRefused(t, amount, 1, 2, 3)
		isRefused(t, amount)
		isRefused(t, amount, 0)
	}
}

// P5.2: from 1 to 16 weights.
func TestSplitCount(t *testing.T) {
	for count := 1; count <= 16; count++ {
		isSplit(t, 5*count, repeated(1, count), repeated(5, count)...)
		isSplit(t, 0, repeated(1000, count), repeated(0, count)...)
		isSplit(t, 1<<31, repeated(1000, count), divided(1<<31, repeated(1000, count))...)
	}
	isRefused(t, 0)
	isRefused(t, 5)
	isRefused(t, 5, []int{}...)
	for _, count := range []int{17, 18, 32, 1000} {
		isRefused(t, 5, repeated(1, count)...)
		isRefused(t, 0, repeated(1, count)...)
		isRefused(t, 5, append(repeated(0, count-1), 1)...)
	}
}

// P5.2: weights from 0 to 1000, wherever they stand.
func TestSplitWeights(t *testing.T) {
	isSplit(t, 1001, []int{1000, 1}, 1000, 1)
	isSplit(t, 1001, []int{1, 1000}, 1, 1000)
	isSplit(t, 999, []int{0, 999, 0}, 0, 999, 0)
	for _, wrong := range []int{math.MinInt, -1000, -1, 1001, 1002, 1 << 31, 1<<32 + 1, math.MaxInt} {
		for at := range 16 {
			ws := repeated(1, 16)
			ws[at] = wrong
			isRefused(t, 5, ws...)
			isRefused(t, 0, ws...)
		}
		isRefused(t, 5, wrong)
		isRefused(t, 5, wrong, wrong)
	}
	isRefused(t, 5, -1, 2)
	isRefused(t, 5, -1, 1)
	isRefused(t, 5, math.MaxInt, math.MaxInt, 3)
}

// P5.2: weights that are all 0 are refused; one other among them is enough, and gets all.
func TestSplitZeros(t *testing.T) {
	for count := 1; count <= 16; count++ {
		isRefused(t, 5, repeated(0, count)...)
		isRefused(t, 0, repeated(0, count)...)
		for at := range count {
			ws, want := repeated(0, count), repeated(0, count)
			ws[at], want[at] = 3, 7
			isSplit(t, 7, ws, want...)
		}
	}
}

// P5.2: what is left goes to the greatest remainders, not to the first, the greatest or the last weights.
func TestSplitRemainders(t *testing.T) {
	isSplit(t, 7, []int{1, 3, 2}, 1, 4, 2)
	isSplit(t, 10, []int{3, 1, 1, 1}, 5, 2, 2, 1)
	isSplit(t, 1, []int{1, 2, 3}, 0, 0, 1)
	isSplit(t, 1, []int{3, 2, 1}, 1, 0, 0)
	isSplit(t, 2, []int{1, 2, 3}, 0, 1, 1)
	isSplit(t, 3, []int{5, 1, 1, 1}, 2, 1, 0, 0)
	isSplit(t, 5, []int{6, 3, 1}, 3, 2, 0)
	isSplit(t, 6, []int{600, 300, 100}, 4, 2, 0)
	isSplit(t, 100, []int{333, 333, 334}, 33, 33, 34)
	isSplit(t, 3, []int{1, 1000}, 0, 3)
	isSplit(t, 501, []int{1, 1000}, 1, 500)
	isSplit(t, 500, []int{1, 1000}, 0, 500)
}

// P5.2: of the same remainders the first ones get it, each one unit only.
func TestSplitTies(t *testing.T) {
	isSplit(t, 1, []int{1, 1}, 1, 0)
	isSplit(t, 1, []int{0, 1, 1}, 0, 1, 0)
	isSplit(t, 2, []int{1, 1, 1}, 1, 1, 0)
	isSplit(t, 11, []int{1, 1, 1}, 4, 4, 3)
	isSplit(t, 2, []int{1, 3}, 1, 1)
	isSplit(t, 2, []int{3, 1}, 2, 0)
	isSplit(t, 6, []int{1, 3, 1, 3}, 1, 2, 1, 2)
	isSplit(t, 15, repeated(1, 16), append(repeated(1, 15), 0)...)
	isSplit(t, 17, repeated(7, 16), append([]int{2}, repeated(1, 15)...)...)
	isSplit(t, 31, repeated(1000, 16), append(repeated(2, 15), 1)...)
}

// P5.2 and P5.3: all splits of small amounts by one, two, three and four small weights.
func TestSplitAllSmall(t *testing.T) {
	for count, kinds := 1, 5; count <= 4; count, kinds = count+1, kinds*5 {
		for n := 1; n < kinds; n++ {
			ws := make([]int, count)
			for i, rest := 0, n; i < count; i, rest = i+1, rest/5 {
				ws[i] = rest % 5
			}
			for amount := range 26 {
				isSplit(t, amount, ws, divided(amount, ws)...)
				isFair(t, amount, ws)
			}
		}
	}
}

// P5.2 and P5.3: splits of amounts of every size by up to 16 weights.
func TestSplitMany(t *testing.T) {
	d := dice(9)
	for i := range 20000 {
		ws := d.weights()
		amount := d.below(1 << (i % 32))
		if i%10 == 0 {
			amount = 1<<31 - d.below(20)
		}
		isSplit(t, amount, ws, divided(amount, ws)...)
		isFair(t, amount, ws)
	}
}

// P5.4: amounts that add up to 0, and those that don't.
func TestEven(t *testing.T) {
	isEven(t, true)
	isEven(t, true, 0)
	isEven(t, true, 0, 0, 0)
	isEven(t, true, -5, 5)
	isEven(t, true, 10, -4, -6)
	isEven(t, true, -1<<31, 1<<30, 1<<30)
	isEven(t, true, math.MaxInt, -math.MaxInt)
	isEven(t, true, math.MinInt, math.MaxInt, 1)
	for _, n := range []int{1, -1, 1 << 31, 1 << 32, math.MaxInt, math.MinInt} {
		isEven(t, false, n)
		isEven(t, false, 0, n)
		isEven(t, false, n, 0)
		isEven(t, false, -5, 5, n)
	}
	isEven(t, false, 5, -4)
	isEven(t, false, math.MaxInt, math.MinInt)
}

// P5.4: sums that overflow aren't even, though they'd come to 0, by wrapping round or by going back.
func TestEvenOverflow(t *testing.T) {
	isEven(t, false, math.MinInt, math.MinInt)
	isEven(t, false, math.MaxInt, math.MaxInt, 2)
	isEven(t, false, math.MaxInt, 1, math.MinInt)
	isEven(t, false, math.MaxInt, 1, -1, -math.MaxInt)
	isEven(t, false, math.MinInt, -1, 1, math.MaxInt, 1)
	isEven(t, true, math.MaxInt, -1, 1, -math.MaxInt)
	isEven(t, true, math.MaxInt, math.MinInt, 1)
	isEven(t, false, 1<<62, 1<<62, -1<<62, -1<<62)
	isEven(t, true, 1<<62, -1<<62, 1<<62, -1<<62)
}

// P5.4: the Op of a share doesn't count.
func TestEvenOps(t *testing.T) {
	for _, op := range []int{0, 1, -3, 5, math.MaxInt, math.MinInt} {
		if !money.Even(api.Share{Op: op, Amount: -5}, api.Share{Op: op, Amount: 5}) {
			t.Errorf("P5.4: the Op %d counts", op)
		}
		if money.Even(api.Share{Op: op, Amount: 5}, api.Share{Op: -5}) {
			t.Errorf("P5.4: the Op %d counts, or -5", op)
		}
	}
}

// P5.4: many amounts near the edges, against numbers without a bound; both outcomes must have come.
func TestEvenMany(t *testing.T) {
	d := dice(13)
	count := map[api.Errno]int{}
	for range 50000 {
		ns := d.numbers()
		if sum, e := added(ns); e == api.OK && sum != math.MinInt {
			isEven(t, sum == 0, ns...)
			ns = append(ns, -sum)
			isEven(t, true, ns...)
		} else if e == api.ErrOver {
			isEven(t, false, ns...)
			count[e]++
			continue
		}
		count[api.OK]++
	}
	if count[api.OK] < 1000 || count[api.ErrOver] < 1000 {
		t.Errorf("P5.4: outcomes: %v", count)
	}
}

// scribble changes all that a slice's holder can reach, the spare capacity too.
func scribble(ns []int) {
	for i := range ns[:cap(ns)] {
		ns[:cap(ns)][i] ^= 0x5A
	}
}

// P5.4: shares are new memory, their spare capacity too.
func TestNewMemory(t *testing.T) {
	for count := 1; count <= 16; count++ {
		ws := repeated(3, count)
		want := divided(100, ws)
		first, _ := money.Split(100, ws...)
		second, _ := money.Split(100, ws...)
		scribble(first)
		if !slices.Equal(second, want) || !slices.Equal(ws, repeated(3, count)) {
			t.Errorf("P5.4: shares share memory: %v, %v", second, ws)
		}
		scribble(ws)
		if !slices.Equal(second, want) {
			t.Errorf("P5.4: shares share memory with weights: %v", second)
		}
	}
}

// P5.4: arguments, and what lies behind them in their memory, stay as they are.
func TestArgumentsStay(t *testing.T) {
	room := []int{5, 3, 0, 1000, 7, 7, 9, 11}
	was := slices.Clone(room)
	money.Sum(room[:4]...)
	money.Split(1234, room[:4]...)
	money.Split(-1, room[:4]...)
	money.Split(1, room[3:3]...)
	if !slices.Equal(room, was) {
		t.Errorf("P5.4: %v", room)
	}
	ss := sharesOf(-5, 5, 3, 4)
	before := slices.Clone(ss)
	money.Even(ss[:2]...)
	money.Even(ss[:3]...)
	if !slices.Equal(ss, before) {
		t.Errorf("P5.4: %v", ss)
	}
}

// P1: whatever the numbers, and however many, every call ends and does not panic.
func TestNoPanic(t *testing.T) {
	edges := []int{math.MinInt, math.MinInt + 1, -1 << 32, -1, 0, 1, 2, 999, 1000, 1001, 1 << 31, 1<<31 + 1, 1 << 32, math.MaxInt - 1, math.MaxInt}
	for _, a := range edges {
		for _, b := range edges {
			for _, c := range edges {
				if got, e := money.Split(a, b, c); e != api.OK && len(got) != 0 || e == api.OK && len(got) != 2 {
					t.Errorf("P1: Split(%d, %d, %d): %v, %d", a, b, c, got, e)
				}
				want, we := added([]int{a, b, c})
				isSum(t, []int{a, b, c}, want, we)
				isEven(t, want == 0 && we == api.OK, a, b, c)
			}
		}
	}
	many := repeated(math.MaxInt, 1<<20)
	isRefused(t, 1, repeated(1, 1<<20)...)
	if n, e := money.Sum(many...); n != 0 || e != api.ErrOver {
		t.Errorf("P1: many numbers: %d, %d", n, e)
	}
	isEven(t, false, many...)
	isEven(t, true, repeated(0, 1<<20)...)
}
