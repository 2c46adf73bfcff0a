package mask

import (
	"math"
	"slices"
	"strconv"
	"strings"
	"testing"
)

// some are masks of all sorts.
func some() []Mask {
	all := []Mask{0, 1, 2, 3, 5, 6, 10, 1 << 30, 1 << 31, 1<<31 | 1, math.MaxInt32, math.MaxUint32 - 1, math.MaxUint32, 0x55555555, 0xaaaaaaaa}
	seed := uint64(3)
	for range 40 {
		seed = seed*6364136223846793005 + 1442695040888963407
		all = append(all, Mask(seed>>32), Mask(seed>>32&(seed>>16)&seed))
	}
	return all
}

// numbers are those that a mask may have, and others: some of these would be one of the former if they went round, or if bits of them were left out.
func numbers() []int {
	all := []int{math.MinInt, math.MinInt + 1, math.MinInt32, math.MinInt32 + 3, -1 << 40, math.MaxInt32, math.MaxInt - 1, math.MaxInt, 1 << 32, 1<<32 + 3, 1<<40 + 5, 1 << 62}
	for o := -300; o <= 300; o++ {
		all = append(all, o)
	}
	return all
}

// others are numbers that no mask has.
func others() []int {
	return slices.DeleteFunc(numbers(), func(o int) bool { return o >= 0 && o < 32 })
}

// of answers which of 32 observers a mask has, bit by bit.
func of(m Mask) (has [32]bool) {
	for o := range has {
		has[o] = uint64(m)>>o&1 == 1
	}
	return has
}

// list answers the observers of a mask, rising.
func list(m Mask) (l []int) {
	for o, has := range of(m) {
		if has {
			l = append(l, o)
		}
	}
	return l
}

// P5.1: Of, All, With

func TestOf(t *testing.T) {
	for _, c := range []struct {
		observers []int
		want      Mask
	}{
		{nil, 0},
		{[]int{}, 0},
		{[]int{0}, 1},
		{[]int{1}, 2},
		{[]int{31}, 1 << 31},
		{[]int{3, 1}, 10},
		{[]int{1, 3}, 10},
		{[]int{3, 3, 1, 3}, 10},
		{[]int{0, 31}, 1<<31 | 1},
		{[]int{32}, 0},
		{[]int{33}, 0},
		{[]int{64}, 0},
		{[]int{-1}, 0},
		{[]int{-32}, 0},
		{[]int{3, 1, 40, -1}, 10},
		{[]int{-1, 32, 5, math.MinInt, 6, math.MaxInt}, 96},
	} {
		if got := Of(c.observers...); got != c.want {
			t.Errorf("of %d: %x, not %x", c.observers, uint32(got), uint32(c.want))
		}
	}
}

func TestOfEachNumber(t *testing.T) {
	for _, o := range numbers() {
		want := Mask(0)
		if o >= 0 && o < 32 {
			want = 1 << o
		}
		if got := Of(o); got != want {
			t.Errorf("of %d: %x", o, uint32(got))
		}
	}
	for _, m := range some() {
		l := list(m)
		slices.Reverse(l)
		if got := Of(append(l, l...)...); got != m {
			t.Errorf("of %d: %x, not %x", l, uint32(got), uint32(m))
		}
	}
}

func TestAll(t *testing.T) {
	for _, c := range []struct {
		n    int
		want Mask
	}{
		{0, 0}, {1, 1}, {2, 3}, {3, 7}, {6, 63}, {30, 1<<30 - 1}, {31, math.MaxInt32}, {32, math.MaxUint32},
		{33, math.MaxUint32}, {40, math.MaxUint32}, {63, math.MaxUint32}, {64, math.MaxUint32}, {65, math.MaxUint32}, {1 << 32, math.MaxUint32}, {math.MaxInt, math.MaxUint32},
		{-1, 0}, {-31, 0}, {-32, 0}, {-33, 0}, {math.MinInt32, 0}, {math.MinInt, 0},
	} {
		if got := All(c.n); got != c.want {
			t.Errorf("all %d: %x, not %x", c.n, uint32(got), uint32(c.want))
		}
	}
	for _, n := range numbers() {
		if got := All(n).Count(); got != min(max(n, 0), 32) {
			t.Errorf("all %d: %d of them", n, got)
		}
	}
}

func TestWith(t *testing.T) {
	for _, m := range some() {
		if got := m.With(); got != m {
			t.Errorf("%x with none: %x", uint32(m), uint32(got))
		}
		if got := m.With(others()...); got != m {
			t.Errorf("%x with those that no mask has: %x", uint32(m), uint32(got))
		}
		for o := range 32 {
			want := of(m)
			want[o] = true
			if got := m.With(o); of(got) != want {
				t.Errorf("%x with %d: %x", uint32(m), o, uint32(got))
			}
			want[0], want[31] = true, true
			if got := m.With(31, -1, o, 32, 0, o); of(got) != want {
				t.Errorf("%x with %d, 0 and 31: %x", uint32(m), o, uint32(got))
			}
		}
	}
}

// P5.1: Has

func TestHas(t *testing.T) {
	for _, m := range some() {
		for o, want := range of(m) {
			if got := m.Has(o); got != want {
				t.Errorf("%x has %d: %v", uint32(m), o, got)
			}
		}
		for _, o := range others() {
			if m.Has(o) {
				t.Errorf("%x has %d", uint32(m), o)
			}
		}
	}
}

// P5.1: Less, Meet, Join, Within

func TestTwoMasks(t *testing.T) {
	for _, m := range some() {
		for _, n := range some() {
			var less, meet, join [32]bool
			within := true
			for o := range 32 {
				a, b := of(m)[o], of(n)[o]
				less[o], meet[o], join[o] = a && !b, a && b, a || b
				within = within && (b || !a)
			}
			if got := m.Less(n); of(got) != less {
				t.Errorf("%x less %x: %x", uint32(m), uint32(n), uint32(got))
			}
			if got := m.Meet(n); of(got) != meet {
				t.Errorf("%x meets %x: %x", uint32(m), uint32(n), uint32(got))
			}
			if got := m.Join(n); of(got) != join {
				t.Errorf("%x joins %x: %x", uint32(m), uint32(n), uint32(got))
			}
			if got := m.Within(n); got != within {
				t.Errorf("%x within %x: %v", uint32(m), uint32(n), got)
			}
		}
	}
}

func TestMeetAndJoinOfAnyNumber(t *testing.T) {
	for _, c := range []struct {
		m          Mask
		others     []Mask
		meet, join Mask
	}{
		{10, nil, 10, 10},
		{0, nil, 0, 0},
		{math.MaxUint32, nil, math.MaxUint32, math.MaxUint32},
		{10, []Mask{}, 10, 10},
		{10, []Mask{3, 6}, 2, 15},
		{10, []Mask{1, 4}, 0, 15},
		{10, []Mask{0}, 0, 10},
		{10, []Mask{math.MaxUint32, 8}, 8, math.MaxUint32},
		{0, []Mask{1, 3}, 0, 3},
		{15, []Mask{14, 13, 11}, 8, 15},
		{15, []Mask{11, 14, 13, 7}, 0, 15},
		{1 << 31, []Mask{1<<31 | 1, 1<<31 | 2}, 1 << 31, 1<<31 | 3},
	} {
		if got := c.m.Meet(c.others...); got != c.meet {
			t.Errorf("%x meets %x: %x, not %x", uint32(c.m), c.others, uint32(got), uint32(c.meet))
		}
		if got := c.m.Join(c.others...); got != c.join {
			t.Errorf("%x joins %x: %x, not %x", uint32(c.m), c.others, uint32(got), uint32(c.join))
		}
	}
}

func TestWithin(t *testing.T) {
	for _, c := range []struct {
		m, n Mask
		want bool
	}{
		{0, 0, true},
		{0, 5, true},
		{0, math.MaxUint32, true},
		{1, 0, false},
		{10, 10, true},
		{10, 11, true},
		{11, 10, false},
		{10, 2, false},
		{2, 10, true},
		{1, 2, false},
		{1 << 31, math.MaxInt32, false},
		{1 << 31, math.MaxUint32, true},
		{math.MaxUint32, math.MaxUint32, true},
		{math.MaxUint32, math.MaxUint32 - 1, false},
	} {
		if got := c.m.Within(c.n); got != c.want {
			t.Errorf("%x within %x: %v", uint32(c.m), uint32(c.n), got)
		}
	}
}

// P5.1: Count, Each, Text

func TestCount(t *testing.T) {
	for _, m := range some() {
		if got := m.Count(); got != len(list(m)) {
			t.Errorf("%x: %d of them", uint32(m), got)
		}
	}
	for m, want := range map[Mask]int{0: 0, 1: 1, 1 << 31: 1, 10: 2, math.MaxInt32: 31, math.MaxUint32: 32} {
		if got := m.Count(); got != want {
			t.Errorf("%x: %d of them, not %d", uint32(m), got, want)
		}
	}
}

func TestEachIsGoneThroughAgain(t *testing.T) {
	for _, m := range some() {
		each := m.Each()
		for time := range 3 {
			if got := slices.Collect(each); !slices.Equal(got, list(m)) {
				t.Errorf("%x, time %d: %d, not %d", uint32(m), time, got, list(m))
			}
		}
	}
}

func TestEachIsStopped(t *testing.T) {
	for _, m := range some() {
		each := m.Each()
		for most := 1; most <= m.Count(); most++ {
			var got []int
			each(func(o int) bool {
				got = append(got, o)
				return len(got) < most
			})
			if !slices.Equal(got, list(m)[:most]) {
				t.Errorf("%x, stopped at %d: %d", uint32(m), most, got)
			}
			if got := slices.Collect(each); !slices.Equal(got, list(m)) {
				t.Errorf("%x, stopped at %d, and gone through again: %d", uint32(m), most, got)
			}
		}
	}
}

func TestEachInsideEach(t *testing.T) {
	each := Of(1, 3, 31).Each()
	var got []int
	for a := range each {
		for b := range each {
			got = append(got, a*100+b)
		}
	}
	if !slices.Equal(got, []int{101, 103, 131, 301, 303, 331, 3101, 3103, 3131}) {
		t.Errorf("%d", got)
	}
}

func TestEachOfAMaskThatGoesOn(t *testing.T) {
	m := Of(1, 3)
	each := m.Each()
	m = m.With(2).Less(Of(3))
	if got := slices.Collect(each); !slices.Equal(got, []int{1, 3}) {
		t.Errorf("%d", got)
	}
}

func TestText(t *testing.T) {
	for m, want := range map[Mask]string{
		0:              "-",
		1:              "0",
		2:              "1",
		10:             "1,3",
		1 << 31:        "31",
		1<<31 | 1:      "0,31",
		0x600:          "9,10",
		math.MaxUint32: "0,1,2,3,4,5,6,7,8,9,10,11,12,13,14,15,16,17,18,19,20,21,22,23,24,25,26,27,28,29,30,31",
	} {
		if got := m.Text(); got != want {
			t.Errorf("%x: %q, not %q", uint32(m), got, want)
		}
	}
	if got := Of(3, 1).Text(); got != "1,3" {
		t.Errorf("the example: %q", got)
	}
	for _, m := range some() {
		var words []string
		for _, o := range list(m) {
			words = append(words, strconv.Itoa(o))
		}
		if got := m.Text(); m != 0 && got != strings.Join(words, ",") {
			t.Errorf("%x: %q", uint32(m), got)
		}
	}
}

// P1, P2, and the rules of memory and values: masks and what is handed in stay as they were, and each call does the same again.
func TestMasksAreValues(t *testing.T) {
	numbers, masks := []int{40, 3, 3, -1, 1, 99}, []Mask{6, 3, 9, 99}
	for _, m := range some() {
		was := m
		for range 2 {
			if Of(numbers[:5]...) != 10 || m.With(numbers[:5]...) != was|10 {
				t.Errorf("%x: With, or Of", uint32(was))
			}
			if m.Meet(masks[:2]...) != was&2 || m.Join(masks[:3]...) != was|15 {
				t.Errorf("%x: Meet, or Join", uint32(was))
			}
			if m.Less(6) != was-was&6 || m.Has(31) != (was >= 1<<31) {
				t.Errorf("%x: Less, or Has", uint32(was))
			}
		}
		if m != was {
			t.Errorf("%x became %x", uint32(was), uint32(m))
		}
	}
	if !slices.Equal(numbers, []int{40, 3, 3, -1, 1, 99}) || !slices.Equal(masks, []Mask{6, 3, 9, 99}) {
		t.Errorf("what was handed in is changed: %d, %d", numbers, masks)
	}
}
