package order

import (
	"math"
	"math/big"
	"math/bits"
	"testing"
)

// some are numbers at the round's end, at its half, and elsewhere.
func some() []Seq {
	return []Seq{0, 1, 2, 31, 32, 33, 12345, 32766, 32767, 32768, 32769, 40000, 65503, 65504, 65534, 65535}
}

// P4.1

func TestTo(t *testing.T) {
	for _, c := range []struct {
		a, b Seq
		want int
	}{
		{0, 0, 0},
		{65535, 65535, 0},
		{0, 1, 1},
		{1, 0, -1},
		{65535, 0, 1},
		{0, 65535, -1},
		{65535, 3, 4},
		{3, 65535, -4},
		{0, 32767, 32767},
		{0, 32768, -32768},
		{0, 32769, -32767},
		{32767, 0, -32767},
		{32768, 0, -32768},
		{32769, 0, 32767},
		{65535, 32766, 32767},
		{65535, 32767, -32768},
		{65535, 32768, -32767},
		{32767, 65535, -32768},
		{100, 200, 100},
		{200, 100, -100},
		{40000, 10000, -30000},
		{10000, 40000, 30000},
		{10000, 50000, -25536},
	} {
		if got := c.a.To(c.b); got != c.want {
			t.Errorf("from %d to %d: %d, not %d", c.a, c.b, got, c.want)
		}
	}
}

// TestToAllTheWayRound holds To, Less and Add against one another, from some numbers to all.
func TestToAllTheWayRound(t *testing.T) {
	for _, a := range some() {
		for far := -32768; far <= 32767; far++ {
			b := Seq((int(a) + far + 65536) % 65536)
			if got := a.To(b); got != far {
				t.Fatalf("from %d to %d: %d, not %d", a, b, got, far)
			}
			if got := a.Less(b); got != (far > 0) {
				t.Fatalf("%d less %d: %v", a, b, got)
			}
			if got := a.Add(far); got != b {
				t.Fatalf("%d and %d: %d, not %d", a, far, got, b)
			}
		}
	}
}

func TestLess(t *testing.T) {
	for _, c := range []struct {
		a, b Seq
		want bool
	}{
		{65535, 3, true},
		{3, 65535, false},
		{65535, 0, true},
		{0, 65535, false},
		{0, 0, false},
		{65535, 65535, false},
		{1, 2, true},
		{2, 1, false},
		{0, 32767, true},
		{32767, 0, false},
		{0, 32768, false}, // at the half neither is less
		{32768, 0, false},
		{32767, 65535, false},
		{65535, 32767, false},
		{32769, 0, true},
		{0, 32769, false},
	} {
		if got := c.a.Less(c.b); got != c.want {
			t.Errorf("%d less %d: %v", c.a, c.b, got)
		}
	}
}

func TestAdd(t *testing.T) {
	for _, c := range []struct {
		a    Seq
		n    int
		want Seq
	}{
		{0, 0, 0},
		{65535, 0, 65535},
		{65535, 1, 0},
		{0, -1, 65535},
		{65534, 5, 3},
		{3, -5, 65534},
		{0, 65535, 65535},
		{7, 65536, 7},
		{7, 65537, 8},
		{7, 200000, 3399},
		{7, -65536, 7},
		{7, -65537, 6},
		{7, -200000, 62151},
		{0, 32768, 32768},
		{0, -32768, 32768},
		{1, math.MaxInt32, 0},
		{0, math.MinInt32, 0},
		{1, math.MaxInt, 0},
		{5, math.MinInt, 5},
	} {
		if got := c.a.Add(c.n); got != c.want {
			t.Errorf("%d and %d: %d, not %d", c.a, c.n, got, c.want)
		}
	}
}

func TestAddIsModulo65536(t *testing.T) {
	round := big.NewInt(65536)
	for _, a := range some() {
		for shift := range 63 {
			for _, n := range []int{1 << shift, 1<<shift - 1, 1<<shift + 1, -1 << shift, -1<<shift + 1, -1<<shift - 1, math.MaxInt - 1<<shift, math.MinInt + 1<<shift} {
				sum := big.NewInt(int64(n))
				sum.Add(sum, big.NewInt(int64(a)))
				if got, want := a.Add(n), Seq(sum.Mod(sum, round).Uint64()); got != want {
					t.Fatalf("%d and %d: %d, not %d", a, n, got, want)
				}
			}
		}
	}
}

// P4.2

func TestNoteOfTheExample(t *testing.T) {
	a, ok := Acks{}.Note(1)
	if !ok || a != (Acks{0, 1}) {
		t.Errorf("1: %v, %v", a, ok)
	}
	a, ok = a.Note(0)
	if !ok || a != (Acks{2, 0}) {
		t.Errorf("0: %v, %v", a, ok)
	}
}

func TestNote(t *testing.T) {
	const all = math.MaxUint32
	for _, c := range []struct {
		name string
		a    Acks
		s    Seq
		want Acks
		ok   bool
	}{
		{"the first", Acks{0, 0}, 0, Acks{1, 0}, true},
		{"the next one", Acks{10, 0}, 10, Acks{11, 0}, true},
		{"one further on", Acks{10, 0}, 11, Acks{10, 1}, true},
		{"two further on", Acks{10, 0}, 12, Acks{10, 2}, true},
		{"31 further on", Acks{10, 0}, 41, Acks{10, 1 << 30}, true},
		{"32 further on", Acks{10, 0}, 42, Acks{10, 1 << 31}, true},
		{"32 further on, beside others", Acks{10, 5}, 42, Acks{10, 1<<31 | 5}, true},
		{"33 further on", Acks{10, 0}, 43, Acks{10, 0}, false},
		{"33 further on, beside others", Acks{10, 5}, 43, Acks{10, 5}, false},
		{"34 further on", Acks{10, 6}, 44, Acks{10, 6}, false},
		{"very far on", Acks{10, 6}, 32777, Acks{10, 6}, false},
		{"half the round on", Acks{10, 6}, 32778, Acks{10, 6}, false},
		{"more than half on", Acks{10, 6}, 32779, Acks{10, 6}, false},
		{"the one ahead of Next", Acks{10, 6}, 9, Acks{10, 6}, false},
		{"long ago", Acks{10, 6}, 0, Acks{10, 6}, false},
		{"told by the lowest bit", Acks{10, 1}, 11, Acks{10, 1}, false},
		{"told by the highest bit", Acks{10, 1 << 31}, 42, Acks{10, 1 << 31}, false},
		{"told by all bits", Acks{10, all}, 30, Acks{10, all}, false},
		{"one that was left out", Acks{10, 5}, 12, Acks{10, 7}, true},
		{"the next one, and no other that waits for it", Acks{10, 2}, 10, Acks{11, 1}, true},
		{"the next one, and one behind it", Acks{10, 1}, 10, Acks{12, 0}, true},
		{"the next one, and some behind it", Acks{10, 1<<31 | 3}, 10, Acks{13, 1 << 28}, true},
		{"the next one, and 31 behind it", Acks{10, all >> 1}, 10, Acks{42, 0}, true},
		{"the next one, and 32 behind it", Acks{10, all}, 10, Acks{43, 0}, true},
		{"the next one, and the last one told", Acks{10, 1 << 31}, 10, Acks{11, 1 << 30}, true},
		{"round: the next one", Acks{65535, 0}, 65535, Acks{0, 0}, true},
		{"round: one further on", Acks{65535, 0}, 0, Acks{65535, 1}, true},
		{"round: both", Acks{65535, 5}, 65535, Acks{1, 1}, true},
		{"round: 32 further on", Acks{65520, 0}, 16, Acks{65520, 1 << 31}, true},
		{"round: 33 further on", Acks{65520, 0}, 17, Acks{65520, 0}, false},
		{"round: long ago", Acks{0, 0}, 65535, Acks{0, 0}, false},
		{"round: half on", Acks{0, 0}, 32768, Acks{0, 0}, false},
		{"round: told", Acks{65535, 1}, 0, Acks{65535, 1}, false},
		{"round: all", Acks{65530, all}, 65530, Acks{27, 0}, true},
	} {
		was := c.a
		got, ok := c.a.Note(c.s)
		if got != c.want || ok != c.ok {
			t.Errorf("%s: %v, %v, not %v, %v", c.name, got, ok, c.want, c.ok)
		}
		if c.a != was {
			t.Errorf("%s: what was told before is changed", c.name)
		}
	}
}

// TestNoteOfAnyTail goes through how many behind Next have come, and whether there is another one behind the gap.
func TestNoteOfAnyTail(t *testing.T) {
	for _, next := range some() {
		for come := range 33 {
			tail := uint32(1)<<come - 1
			got, ok := Acks{next, tail}.Note(next)
			if !ok || got != (Acks{next.Add(come + 1), 0}) {
				t.Errorf("%d, and %d behind it: %v, %v", next, come, got, ok)
			}
			for further := come + 1; further < 32; further++ {
				got, ok := Acks{next, tail | 1<<further}.Note(next)
				if !ok || got != (Acks{next.Add(come + 1), 1 << (further - come - 1)}) {
					t.Errorf("%d, and %d behind it, and %d: %v, %v", next, come, further, got, ok)
				}
			}
		}
	}
}

func TestHas(t *testing.T) {
	for _, c := range []struct {
		a    Acks
		s    Seq
		want bool
	}{
		{Acks{0, 0}, 0, false},
		{Acks{0, 0}, 1, false},
		{Acks{0, 0}, 65535, true},
		{Acks{0, 0}, 32769, true},
		{Acks{0, 0}, 32768, true}, // half the round on is half the round back
		{Acks{0, 0}, 32767, false},
		{Acks{10, 0}, 9, true},
		{Acks{10, 0}, 10, false},
		{Acks{10, math.MaxUint32}, 10, false},
		{Acks{10, math.MaxUint32}, 11, true},
		{Acks{10, math.MaxUint32}, 42, true},
		{Acks{10, math.MaxUint32}, 43, false},
		{Acks{10, math.MaxUint32}, 75, false},
		{Acks{10, 1}, 11, true},
		{Acks{10, 1}, 12, false},
		{Acks{10, 2}, 11, false},
		{Acks{10, 2}, 12, true},
		{Acks{10, 1 << 31}, 41, false},
		{Acks{10, 1 << 31}, 42, true},
		{Acks{10, 1 << 31}, 43, false},
		{Acks{65535, 1}, 0, true},
		{Acks{65535, 1}, 1, false},
		{Acks{65535, 1}, 65535, false},
		{Acks{65535, 1}, 65534, true},
	} {
		if got := c.a.Has(c.s); got != c.want {
			t.Errorf("%v has %d: %v", c.a, c.s, got)
		}
	}
}

// TestHasAllTheWayRound asks for all numbers.
func TestHasAllTheWayRound(t *testing.T) {
	for _, next := range some() {
		for _, told := range []uint32{0, 1, 1 << 31, 0xdeadbeef, math.MaxUint32} {
			a := Acks{next, told}
			for far := -32768; far <= 32767; far++ {
				s := next.Add(far)
				want := far < 0 || far >= 1 && far <= 32 && told>>(far-1)&1 == 1
				if got := a.Has(s); got != want {
					t.Fatalf("%v has %d: %v", a, s, got)
				}
				if _, ok := a.Note(s); ok != (!want && far <= 32) {
					t.Fatalf("%v notes %d: %v", a, s, ok)
				}
			}
		}
	}
}

func TestAhead(t *testing.T) {
	for _, next := range some() {
		for told, want := range map[uint32]int{0: 0, 1: 1, 2: 1, 3: 2, 1 << 31: 1, 1<<31 | 1: 2, 0xdeadbeef: 24, math.MaxUint32 - 1: 31, math.MaxUint32: 32} {
			if got := (Acks{next, told}).Ahead(); got != want {
				t.Errorf("%d, %08x: %d, not %d", next, told, got, want)
			}
		}
	}
}

// TestNoteAsASet holds Acks against a set of all that has come, of numbers that don't go round; they go round a few times.
func TestNoteAsASet(t *testing.T) {
	seed := uint64(1)
	random := func(n int) int {
		seed = seed*6364136223846793005 + 1442695040888963407
		return int(seed>>33) % n
	}
	a, first, come := Acks{Next: 65000}, 65000, map[int]bool{}
	for first < 4*65536 {
		n := first - 40 + random(80)
		if random(3) > 0 {
			n = first + random(6)
		}
		fresh := n >= first && !come[n] && n-first <= 32
		was := a
		var ok bool
		a, ok = a.Note(Seq(n % 65536))
		if ok != fresh || !fresh && a != was {
			t.Fatalf("%d of %v: %v, %v", n, was, a, ok)
		}
		if fresh {
			come[n] = true
		}
		for come[first] {
			delete(come, first)
			first++
		}
		if int(a.Next) != first%65536 || a.Ahead() != len(come) || bits.OnesCount32(a.Bits) != len(come) {
			t.Fatalf("behind %d: %v, not %d, %v", n, a, first, come)
		}
		for k := range 32 {
			if (a.Bits>>k&1 == 1) != come[first+1+k] {
				t.Fatalf("behind %d: %v, not %d, %v", n, a, first, come)
			}
		}
		if !a.Has(Seq((first-1)%65536)) || a.Has(Seq(first%65536)) {
			t.Fatalf("behind %d: %v, which has %d", n, a, first)
		}
	}
}

// P1, P2: of any Acks, whatever has been told to them, every call ends, and does the same again.
func TestAnyAcks(t *testing.T) {
	seed := uint64(7)
	for range 20000 {
		seed = seed*6364136223846793005 + 1442695040888963407
		a, s := Acks{Seq(seed >> 48), uint32(seed >> 13)}, Seq(seed>>33)
		b, ok := a.Note(s)
		c, again := a.Note(s)
		if b != c || ok != again {
			t.Fatalf("%v notes %d twice: %v, %v", a, s, b, c)
		}
		if ok && (a.Has(s) || !b.Has(s)) || !ok && b != a {
			t.Fatalf("%v notes %d: %v, %v", a, s, b, ok)
		}
		if b.Has(b.Next) || !b.Has(b.Next.Add(-1)) {
			t.Fatalf("%v: Next isn't the first one that hasn't come", b)
		}
	}
}
