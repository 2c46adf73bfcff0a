package dice

import (
	"fmt"
	"math"
	"math/big"
	"slices"
	"testing"
)

// These dice's next number is the least one, the greatest one, and those at the half.
var (
	least     = Dice{0x61c8864680b583eb}
	greatest  = Dice{0x31628af67b2131ab}
	underHalf = Dice{0x0d4f88b4067761bd}
	half      = Dice{0x2fedf1efce1d5545}
)

// some are dice of all sorts.
func some() []Dice {
	all := []Dice{{0}, {1}, {2}, {3}, {math.MaxInt64}, {1 << 63}, {math.MaxUint64}, {1 << 32}, least, greatest, underHalf, half}
	state := uint64(5)
	for range 100 {
		state = state*6364136223846793005 + 1442695040888963407
		all = append(all, Dice{state})
	}
	return all
}

// behind answers the dice behind so many Nexts, one by one.
func behind(d Dice, n int) Dice {
	for range n {
		_, d = d.Next()
	}
	return d
}

// count answers so many numbers, no two alike, from first on.
func count(first int32, size int) []int32 {
	l := make([]int32, size)
	for i := range l {
		l[i] = first + int32(i)
	}
	return l
}

// P3.1: Next

// TestNextIsAsOthersTellIt holds the numbers against those of other programs.
func TestNextIsAsOthersTellIt(t *testing.T) {
	for _, c := range []struct {
		d     Dice
		want  []uint32
		state uint64
	}{
		{Dice{0}, []uint32{0xe220a839, 0x6e789e6a, 0x06c45d18, 0xf88bb8a8}, 0x78dde6e5fd29f054},
		{Dice{1}, []uint32{0x910a2dec, 0xbeeb8da1, 0xf893a2ee, 0x71c18690}, 0x78dde6e5fd29f055},
		{Dice{1234567}, []uint32{0x599ed017, 0x2c73f084, 0x883ebce5, 0x3fbef740, 0xe3b83467}, 0x1715609f7c8742f0},
		{Dice{math.MaxUint64}, []uint32{0xe4d97177, 0xe99ff867, 0x382ff84c, 0x6d1db36c}, 0x78dde6e5fd29f053},
		{Dice{0xdeadbeefcafef00d}, []uint32{0x901d4f65, 0xa7ce2464, 0x19b40bbb, 0xe7a86dc5}, 0x578ba5d5c828e061},
		{least, []uint32{0, 0xe220a839}, 0x9e3779b97f4a7c15},
		{greatest, []uint32{math.MaxUint32}, 0xcf9a04affa6badc0},
		{underHalf, []uint32{math.MaxInt32}, 0xab87026d85c1ddd2},
		{half, []uint32{1 << 31}, 0xce256ba94d67d15a},
	} {
		d := c.d
		for i, want := range c.want {
			var got uint32
			got, d = d.Next()
			if got != want {
				t.Errorf("%x, number %d: %08x, not %08x", c.d, i, got, want)
			}
		}
		if d.State != c.state {
			t.Errorf("%x: %x behind them, not %x", c.d, d.State, c.state)
		}
	}
}

// TestNextBits goes by the words of the promise, in numbers without an end.
func TestNextBits(t *testing.T) {
	round := new(big.Int).Lsh(big.NewInt(1), 64)
	mixed := func(z *big.Int, shift uint, times uint64) *big.Int {
		z = new(big.Int).Xor(z, new(big.Int).Rsh(z, shift))
		z.Mul(z, new(big.Int).SetUint64(times))
		return z.Mod(z, round)
	}
	for _, d := range some() {
		state := new(big.Int).SetUint64(d.State)
		state.Add(state, new(big.Int).SetUint64(0x9e3779b97f4a7c15))
		state.Mod(state, round)
		z := mixed(mixed(mixed(state, 30, 0xbf58476d1ce4e5b9), 27, 0x94d049bb133111eb), 31, 1)
		got, then := d.Next()
		if uint64(got) != z.Uint64()>>32 || then.State != state.Uint64() {
			t.Errorf("%x: %08x, %x", d, got, then)
		}
	}
}

// P3.1: Below

func TestBelow(t *testing.T) {
	for _, c := range []struct {
		d       Dice
		n, want uint32
	}{
		{Dice{0}, 0, 0},
		{Dice{0}, 1, 0},
		{Dice{0}, 2, 1},
		{Dice{0}, 6, 5},
		{Dice{0}, 10, 8},
		{Dice{0}, 1 << 31, 0x7110541c},
		{Dice{0}, math.MaxUint32, 0xe220a838},
		{Dice{1}, 6, 3},
		{least, 0, 0},
		{least, 1, 0},
		{least, math.MaxUint32, 0},
		{greatest, 0, 0},
		{greatest, 1, 0},
		{greatest, 2, 1},
		{greatest, 6, 5},
		{greatest, 1 << 31, math.MaxInt32},
		{greatest, math.MaxUint32, math.MaxUint32 - 1},
		{underHalf, 2, 0},
		{underHalf, math.MaxUint32, math.MaxInt32 - 1},
		{half, 1, 0},
		{half, 2, 1},
		{half, 3, 1},
		{half, 4, 2},
		{half, math.MaxUint32, math.MaxInt32},
	} {
		got, then := c.d.Below(c.n)
		if got != c.want {
			t.Errorf("%x below %d: %d, not %d", c.d, c.n, got, c.want)
		}
		if then != behind(c.d, 1) {
			t.Errorf("%x below %d: %x is behind it", c.d, c.n, then)
		}
	}
}

func TestBelowIsNextTimesN(t *testing.T) {
	for _, d := range some() {
		x, then := d.Next()
		for _, n := range []uint32{0, 1, 2, 3, 5, 6, 7, 52, 255, 256, 65535, 65536, 1000000007, 1 << 31, 1<<31 + 1, math.MaxUint32 - 1, math.MaxUint32} {
			product := new(big.Int).Mul(big.NewInt(int64(x)), big.NewInt(int64(n)))
			want := uint32(product.Rsh(product, 32).Uint64())
			got, after := d.Below(n)
			if got != want || after != then {
				t.Errorf("%x below %d: %d, not %d; %x behind it", d, n, got, want, after)
			}
			if n > 0 && got >= n {
				t.Errorf("%x below %d: %d isn't", d, n, got)
			}
		}
	}
}

// P3.1: Shuffle

func TestShuffle(t *testing.T) {
	for _, c := range []struct {
		d       Dice
		l, want []int32
	}{
		{Dice{0}, []int32{5, 6}, []int32{5, 6}},
		{Dice{7}, []int32{5, 6}, []int32{6, 5}},
		{Dice{0}, []int32{5, 6, 7}, []int32{6, 5, 7}},
		{Dice{1}, []int32{5, 6, 7}, []int32{5, 7, 6}},
		{Dice{7}, []int32{5, 6, 7}, []int32{7, 5, 6}},
		{Dice{9}, []int32{5, 6, 7}, []int32{5, 6, 7}},
		{Dice{7}, []int32{math.MinInt32, 0, math.MaxInt32}, []int32{math.MaxInt32, math.MinInt32, 0}},
		{Dice{7}, []int32{4, 4, 3}, []int32{3, 4, 4}},
		{Dice{0}, count(0, 10), []int32{4, 9, 2, 5, 1, 7, 6, 0, 3, 8}},
		{Dice{1}, count(0, 10), []int32{9, 0, 1, 4, 8, 2, 3, 7, 6, 5}},
		{Dice{math.MaxUint64}, count(0, 10), []int32{6, 7, 0, 3, 5, 4, 2, 1, 9, 8}},
	} {
		got, then := c.d.Shuffle(c.l)
		if !slices.Equal(got, c.want) {
			t.Errorf("%x shuffles %d: %d, not %d", c.d, c.l, got, c.want)
		}
		if then != behind(c.d, len(c.l)-1) {
			t.Errorf("%x shuffles %d: %x is behind it", c.d, c.l, then)
		}
	}
}

func TestShuffleOfNoPlaceAndOfOne(t *testing.T) {
	for _, d := range some() {
		for _, l := range [][]int32{nil, {}, {-3}} {
			if got, then := d.Shuffle(l); !slices.Equal(got, l) || then != d {
				t.Errorf("%x shuffles %d: %d, and %x is behind it", d, l, got, then)
			}
		}
	}
}

// TestShuffleOfMany takes the changes of places back, one by one.
func TestShuffleOfMany(t *testing.T) {
	for _, d := range []Dice{{0}, {1}, {math.MaxUint64}, least, greatest} {
		for _, size := range []int{4, 48, 255, 256, 257, 1000, 70000} {
			got, then := d.Shuffle(count(-9, size))
			if then != behind(d, size-1) {
				t.Errorf("%x shuffles %d: %x is behind it", d, size, then)
			}
			if len(got) != size {
				t.Fatalf("%x shuffles %d: there are %d", d, size, len(got))
			}
			places := make([]uint32, size)
			for i, e := size-1, d; i > 0; i-- {
				places[i], e = e.Below(uint32(i + 1))
			}
			for i := 1; i < size; i++ {
				got[i], got[places[i]] = got[places[i]], got[i]
			}
			if !slices.Equal(got, count(-9, size)) {
				t.Errorf("%x shuffles %d: another order", d, size)
			}
		}
	}
}

func TestShuffleMayAnswerAnyOrder(t *testing.T) {
	times := map[string]int{}
	for seed := range uint64(2400) {
		got, _ := Dice{seed}.Shuffle([]int32{1, 2, 3, 4})
		times[fmt.Sprint(got)]++
	}
	if len(times) != 24 {
		t.Errorf("%d orders of four, not 24", len(times))
	}
	for order, n := range times {
		if n < 50 || n > 150 {
			t.Errorf("%s comes %d times of 2400", order, n)
		}
	}
}

func TestShuffleSharesNoMemory(t *testing.T) {
	for size := range 9 {
		room := count(1, 16)
		l := room[:size]
		got, _ := Dice{7}.Shuffle(l)
		want := slices.Clone(got)
		again, _ := Dice{7}.Shuffle(l)
		if !slices.Equal(room, count(1, 16)) {
			t.Fatalf("%d places: what was handed in is changed: %d", size, room)
		}
		all := again[:cap(again)]
		for i := range all {
			all[i] = -1
		}
		for i := range room {
			if room[i] != int32(i+1) {
				t.Errorf("%d places: an answer is what was handed in", size)
			}
			room[i] = -2
		}
		if !slices.Equal(got, want) {
			t.Errorf("%d places: %d, that was %d", size, got, want)
		}
	}
}

// P3.1: Skip

func TestSkip(t *testing.T) {
	for _, d := range some() {
		want := d
		for n := range 100 {
			if got := d.Skip(n); got != want {
				t.Errorf("%x skips %d: %x, not %x", d, n, got, want)
			}
			_, want = want.Next()
		}
		if got := d.Skip(5000); got != behind(d, 5000) {
			t.Errorf("%x skips 5000: %x", d, got)
		}
	}
}

func TestSkipBelowNone(t *testing.T) {
	for _, d := range some() {
		for _, n := range []int{0, -1, -2, -1 << 16, math.MinInt32, math.MinInt + 1, math.MinInt} {
			if got := d.Skip(n); got != d {
				t.Errorf("%x skips %d: %x", d, n, got)
			}
		}
	}
}

// TestSkipOfVeryMany would take years if it were done one by one.
func TestSkipOfVeryMany(t *testing.T) {
	round := new(big.Int).Lsh(big.NewInt(1), 64)
	for _, d := range some() {
		for _, n := range []int{math.MaxInt16, math.MaxInt32, math.MaxInt / 3, math.MaxInt - 1, math.MaxInt} {
			state := new(big.Int).Mul(big.NewInt(int64(n)), new(big.Int).SetUint64(0x9e3779b97f4a7c15))
			state.Add(state, new(big.Int).SetUint64(d.State))
			if got := d.Skip(n); got.State != state.Mod(state, round).Uint64() {
				t.Errorf("%x skips %d: %x", d, n, got)
			}
			if d.Skip(n).Skip(7) != d.Skip(7).Skip(n) {
				t.Errorf("%x skips %d, and 7 more: that isn't 7, and %d more", d, n, n)
			}
		}
	}
}

// P3.1: Split

func TestSplit(t *testing.T) {
	for _, c := range []struct {
		d           Dice
		first, then uint64
	}{
		{Dice{0}, 0xe220a8396e789e6a, 0x3c6ef372fe94f82a},
		{Dice{1}, 0x910a2decbeeb8da1, 0x3c6ef372fe94f82b},
		{Dice{math.MaxUint64}, 0xe4d97177e99ff867, 0x3c6ef372fe94f829},
		{least, 0x00000000e220a839, 0x9e3779b97f4a7c15},
	} {
		first, then := c.d.Split()
		if first.State != c.first || then.State != c.then {
			t.Errorf("%x: %x, %x, not %x, %x", c.d, first, then, c.first, c.then)
		}
	}
}

func TestSplitIsOfTwoNexts(t *testing.T) {
	for _, d := range some() {
		high, e := d.Next()
		low, e := e.Next()
		first, second := d.Split()
		if first.State>>32 != uint64(high) || uint32(first.State) != low {
			t.Errorf("%x: the first die is %x, of %08x and %08x", d, first, high, low)
		}
		if second != e || second != d.Skip(2) {
			t.Errorf("%x: the second die is %x, not %x", d, second, e)
		}
	}
}

// P1, P2, and the rule of values: dice stay as they were, and do the same again.
func TestDiceAreValues(t *testing.T) {
	for _, d := range some() {
		was := d.State
		twice := func(call func() string) {
			if a, b := call(), call(); a != b || d.State != was {
				t.Errorf("%x: %s, then %s", was, a, b)
			}
		}
		twice(func() string { return fmt.Sprint(d.Next()) })
		twice(func() string { return fmt.Sprint(d.Below(6)) })
		twice(func() string { return fmt.Sprint(d.Shuffle([]int32{1, 2, 3})) })
		twice(func() string { return fmt.Sprint(d.Skip(3)) })
		twice(func() string { return fmt.Sprint(d.Split()) })
	}
}
