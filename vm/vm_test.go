package vm

import (
	"math"
	"math/big"
	"math/rand"
	"slices"
	"testing"

	"hoodwink/api"
	"hoodwink/board"
	"hoodwink/code"
	"hoodwink/dice"
	"hoodwink/mask"
)

// numbers are values at the edges of 32 bits, and about those that the document names.
func numbers() []int32 {
	l := []int32{math.MinInt32, math.MinInt32 + 1, math.MinInt32 + 2, -65537, -65536, -1000, -49, -48, -47, 1000, 65535, 65536, 46340, 46341, 1<<30 - 1, 1 << 30, math.MaxInt32 - 1, math.MaxInt32}
	for n := int32(-34); n < 66; n++ {
		l = append(l, n)
	}
	return l
}

// masks are sets of observers: none, each alone, all, and mixed ones.
func masks() []mask.Mask {
	l := []mask.Mask{0, 3, 5, 7, 15, 1<<31 | 1, math.MaxInt32, math.MaxUint32, 0x55555555, 0xaaaaaaaa}
	for o := range 32 {
		l = append(l, 1<<o)
	}
	return l
}

// made answers the board of these cells.
func made(t *testing.T, cells ...board.Cell) board.Board {
	t.Helper()
	b, e := board.New(cells...)
	if e != api.OK {
		t.Fatalf("%d cells: %v", len(cells), e)
	}
	return b
}

// filled answers a board of so many cells, no two of one value, that all have this label.
func filled(t *testing.T, size int, seen mask.Mask) board.Board {
	t.Helper()
	cells := make([]board.Cell, size)
	for i := range cells {
		cells[i] = board.Cell{Value: int32(1000 + i), Seen: seen}
	}
	return made(t, cells...)
}

// with answers b with another cell at i.
func with(t *testing.T, b board.Board, i int, c board.Cell) board.Board {
	t.Helper()
	b, e := b.Put(i, c)
	if e != api.OK {
		t.Fatalf("no cell %d", i)
	}
	return b
}

// same tells whether two results are the same.
func same(a, b Result) bool {
	return a.Board == b.Board && a.Dice == b.Dice && a.Touched == b.Touched && a.Used == b.Used && a.Err == b.Err && slices.Equal(a.Shows, b.Shows)
}

// mustBe holds a result to that which it should be.
func mustBe(t *testing.T, what any, got, want Result) {
	t.Helper()
	if got.Board != want.Board {
		t.Errorf("%v: the board is %v, not %v", what, got.Board.Cells(), want.Board.Cells())
	}
	got.Board, want.Board = board.Board{}, board.Board{}
	if !same(got, want) {
		t.Errorf("%v: %v, not %v", what, got, want)
	}
}

// program is instructions, and what they run on.
type program struct {
	l     []code.Code
	b     board.Board
	d     dice.Dice
	moves []int32
	tick  uint32
	all   mask.Mask
}

// run runs it.
func (c program) run() Result { return Run(c.l, c.b, c.d, c.moves, c.tick, c.all) }

// P9.1: registers

// TestRegistersAtFirst stores each one ahead of everything else.
func TestRegistersAtFirst(t *testing.T) {
	b := filled(t, 2, 1)
	for _, all := range masks() {
		for r := range byte(8) {
			got := program{l: []code.Code{{Op: code.Store, A: r, N: 1}}, b: b, all: all}.run()
			mustBe(t, r, got, Result{Board: with(t, b, 1, board.Cell{Value: 0, Seen: all}), Touched: 2, Used: 1})
		}
	}
}

// TestEachRegisterIsItsOwn sets all of them, each to another value, and then one anew.
func TestEachRegisterIsItsOwn(t *testing.T) {
	b := filled(t, 8, 0)
	for again := range byte(8) {
		var l []code.Code
		for r := range byte(8) {
			l = append(l, code.Code{Op: code.Set, A: r, N: int32(r) - 4})
		}
		l = append(l, code.Code{Op: code.Set, A: again, N: 99})
		want := b
		for r := range byte(8) {
			l = append(l, code.Code{Op: code.Store, A: r, N: int32(r)})
			value := int32(r) - 4
			if r == again {
				value = 99
			}
			want = with(t, want, int(r), board.Cell{Value: value, Seen: 6})
		}
		mustBe(t, again, program{l: l, b: b, all: 6}.run(), Result{Board: want, Touched: 255, Used: 17})
	}
}

// P9.1: Set, Clock, Move

func TestSet(t *testing.T) {
	b := filled(t, 3, 2)
	for _, n := range numbers() {
		for _, all := range []mask.Mask{0, 1, 7, math.MaxUint32} {
			got := program{l: []code.Code{{Op: code.Roll, A: 7, N: 1}, {Op: code.Set, A: 7, N: n}, {Op: code.Store, A: 7, N: 2}}, b: b, all: all}.run()
			mustBe(t, n, got, Result{Board: with(t, b, 2, board.Cell{Value: n, Seen: all}), Dice: dice.Dice{}.Skip(1), Touched: 4, Used: 3})
		}
	}
}

func TestClock(t *testing.T) {
	b := filled(t, 1, 2)
	for tick, value := range map[uint32]int32{0: 0, 1: 1, math.MaxInt32: math.MaxInt32, 1 << 31: math.MinInt32, 1<<31 + 1: math.MinInt32 + 1, math.MaxUint32 - 1: -2, math.MaxUint32: -1} {
		for _, all := range []mask.Mask{0, 1, 7, math.MaxUint32} {
			got := program{l: []code.Code{{Op: code.Load, A: 3}, {Op: code.Clock, A: 3}, {Op: code.Store, A: 3}}, b: b, tick: tick, all: all}.run()
			mustBe(t, tick, got, Result{Board: with(t, b, 0, board.Cell{Value: value, Seen: all}), Touched: 1, Used: 3})
		}
	}
}

// TestMove takes the moves of each player: also of more of them than a game may have, and of one that isn't in all.
func TestMove(t *testing.T) {
	b := filled(t, 1, 2)
	moves := make([]int32, 70)
	for i := range moves {
		moves[i] = int32(i*i) - 20
	}
	moves[0], moves[5] = math.MinInt32, math.MaxInt32
	for _, all := range []mask.Mask{0, 1, 7, math.MaxUint32} {
		for player, move := range moves {
			var seen mask.Mask
			if player < 32 {
				seen = 1 << player
			}
			got := program{l: []code.Code{{Op: code.Move, A: 6, N: int32(player)}, {Op: code.Store, A: 6}}, b: b, moves: moves, all: all}.run()
			mustBe(t, player, got, Result{Board: with(t, b, 0, board.Cell{Value: move, Seen: seen}), Touched: 1, Used: 2})
		}
	}
}

// P9.1: Load, Store, LoadAt, StoreAt

// TestLoadAndStore carries each cell to each other one: value and label, those that all hasn't too.
func TestLoadAndStore(t *testing.T) {
	b := filled(t, 48, 1)
	for from := range 48 {
		c := board.Cell{Value: int32(from) - 7, Seen: mask.Mask(1<<31|3) << (from % 5)}
		b := with(t, b, from, c)
		for to := range 48 {
			got := program{l: []code.Code{{Op: code.Load, A: 5, N: int32(from)}, {Op: code.Store, A: 5, N: int32(to)}}, b: b, all: 7}.run()
			mustBe(t, []int{from, to}, got, Result{Board: with(t, b, to, c), Touched: 1 << to, Used: 2})
		}
	}
}

// TestAt loads from and stores into the cells N + B, for all N, and B about where the cells end.
func TestAt(t *testing.T) {
	for _, size := range []int{1, 2, 5, 48} {
		b := filled(t, size, 4)
		for n := range size {
			for _, index := range numbers() {
				i := int64(n) + int64(index)
				there := i >= 0 && i < int64(size)
				load := program{l: []code.Code{{Op: code.Set, A: 2, N: index}, {Op: code.LoadAt, A: 3, B: 2, N: int32(n)}, {Op: code.Store, A: 3}}, b: b, all: 3}
				store := program{l: []code.Code{{Op: code.Set, A: 2, N: index}, {Op: code.Set, A: 3, N: 77}, {Op: code.StoreAt, A: 3, B: 2, N: int32(n)}}, b: b, all: 3}
				if !there {
					mustBe(t, []int64{int64(size), int64(n), i}, load.run(), Result{Board: b, Used: 2, Err: api.ErrIndex})
					mustBe(t, []int64{int64(size), int64(n), i}, store.run(), Result{Board: b, Used: 3, Err: api.ErrIndex})
					continue
				}
				c, _ := b.At(int(i))
				mustBe(t, []int64{int64(size), int64(n), i}, load.run(), Result{Board: with(t, b, 0, c), Touched: 1, Used: 3})
				mustBe(t, []int64{int64(size), int64(n), i}, store.run(), Result{Board: with(t, b, int(i), board.Cell{Value: 77, Seen: 3}), Touched: 1 << i, Used: 3})
			}
		}
	}
}

// TestStoreAtKeepsTheLabel stores what one alone may see.
func TestStoreAtKeepsTheLabel(t *testing.T) {
	b := made(t, board.Cell{Value: 9, Seen: 2}, board.Cell{Value: 1, Seen: 7}, board.Cell{Value: 5})
	got := program{l: []code.Code{{Op: code.Load, A: 1}, {Op: code.StoreAt, A: 1, B: 2, N: 1}}, b: b, all: 7}.run()
	mustBe(t, "at 1", got, Result{Board: with(t, b, 1, board.Cell{Value: 9, Seen: 2}), Touched: 2, Used: 2})
	got = program{l: []code.Code{{Op: code.LoadAt, A: 1, B: 2, N: 2}, {Op: code.Store, A: 1, N: 1}}, b: b, all: 7}.run()
	mustBe(t, "of 2", got, Result{Board: with(t, b, 1, board.Cell{Value: 5}), Touched: 2, Used: 2})
}

// TestTaint asks of those that hang on a register: all must see it, and others may. The place is right, and is wrong.
func TestTaint(t *testing.T) {
	for _, value := range []int32{0, 1, -1, 3, math.MinInt32, math.MaxInt32} {
		for _, all := range masks() {
			for _, seen := range masks() {
				b := made(t, board.Cell{Value: value, Seen: seen}, board.Cell{}, board.Cell{})
				taint := uint32(all)&^uint32(seen) != 0
				for _, c := range []code.Code{{Op: code.LoadAt, B: 4}, {Op: code.StoreAt, B: 4}, {Op: code.Reveal, B: 4, Mask: 5}, {Op: code.Branch, A: 4}} {
					got := program{l: []code.Code{{Op: code.Load, A: 4}, c, {Op: code.Stop}}, b: b, all: all}.run()
					want := api.OK
					switch {
					case taint:
						want = api.ErrTaint
					case c.Op == code.Branch && value == 0:
						want = api.ErrFuel
					case c.Op != code.Branch && (value < 0 || value > 2):
						want = api.ErrIndex
					}
					if got.Err != want {
						t.Errorf("%v, all %v, cell %d for %v: %v, not %v", c, all.Text(), value, seen.Text(), got.Err, want)
					}
					if used := map[api.Errno]int{api.OK: 3, api.ErrFuel: 400, api.ErrTaint: 2, api.ErrIndex: 2}[want]; got.Used != used {
						t.Errorf("%v: %d were followed, not %d", c, got.Used, used)
					}
				}
			}
		}
	}
}

// TestOthersAreNotAsked follows, with registers that nobody may see, all that goes nowhere by them.
func TestOthersAreNotAsked(t *testing.T) {
	b := filled(t, 3, 0)
	for _, c := range []code.Code{{Op: code.Store, A: 1}, {Op: code.StoreAt, A: 1, B: 2}, {Op: code.LoadAt, A: 1, B: 2}, {Op: code.Add, A: 1, B: 1, C: 1}, {Op: code.Select, A: 1, B: 1, C: 1}, {Op: code.Jump, N: 2}, {Op: code.Reveal, B: 2, Mask: 1}, {Op: code.Set, A: 1}, {Op: code.Clock, A: 1}, {Op: code.Move, A: 1}, {Op: code.Roll, A: 1, N: 2}, {Op: code.Shuffle, C: 2}} {
		got := program{l: []code.Code{{Op: code.Load, A: 1}, c}, b: b, moves: []int32{1}, all: 3}.run()
		if got.Err != api.OK || got.Used != 2 {
			t.Errorf("%v: %v, %d were followed", c, got.Err, got.Used)
		}
	}
}

// P9.1: Add to Equal, Select

// TestWhoSeesWhatIsComputed takes two registers, of all labels.
func TestWhoSeesWhatIsComputed(t *testing.T) {
	for op := byte(code.Add); op <= code.Equal; op++ {
		for _, x := range masks() {
			for _, y := range masks() {
				b := made(t, board.Cell{Value: 13, Seen: x}, board.Cell{Value: 4, Seen: y}, board.Cell{Value: 1, Seen: 1})
				got := program{l: []code.Code{{Op: code.Load, A: 1}, {Op: code.Load, A: 2, N: 1}, {Op: op, A: 3, B: 1, C: 2}, {Op: code.Store, A: 3, N: 2}}, b: b, all: 3}.run()
				mustBe(t, op, got, Result{Board: with(t, b, 2, board.Cell{Value: Compute(op, 13, 4), Seen: x & y}), Touched: 4, Used: 4})
			}
		}
	}
}

// TestRegistersThatAreOne computes where A is B, is C, is both.
func TestRegistersThatAreOne(t *testing.T) {
	b := made(t, board.Cell{Value: 13, Seen: 5}, board.Cell{Value: 4, Seen: 6}, board.Cell{})
	for op := byte(code.Add); op <= code.Equal; op++ {
		for _, c := range []struct {
			a, b, c byte
			want    board.Cell
		}{
			{1, 1, 2, board.Cell{Value: Compute(op, 13, 4), Seen: 4}},
			{2, 1, 2, board.Cell{Value: Compute(op, 13, 4), Seen: 4}},
			{2, 2, 1, board.Cell{Value: Compute(op, 4, 13), Seen: 4}},
			{1, 1, 1, board.Cell{Value: Compute(op, 13, 13), Seen: 5}},
			{0, 2, 2, board.Cell{Value: Compute(op, 4, 4), Seen: 6}},
			{7, 0, 1, board.Cell{Value: Compute(op, 0, 13), Seen: 5}},
		} {
			got := program{l: []code.Code{{Op: code.Load, A: 1}, {Op: code.Load, A: 2, N: 1}, {Op: op, A: c.a, B: c.b, C: c.c}, {Op: code.Store, A: c.a, N: 2}}, b: b, all: 7}.run()
			mustBe(t, c, got, Result{Board: with(t, b, 2, c.want), Touched: 4, Used: 4})
		}
	}
}

// TestSelect asks of values, and of labels: all three count, the one that isn't taken too.
func TestSelect(t *testing.T) {
	for _, asked := range []int32{0, 1, -1, 2, 256, 1 << 16, math.MinInt32, math.MaxInt32} {
		for _, a := range []mask.Mask{0, 1, 6, 7, math.MaxUint32} {
			for _, x := range masks() {
				for _, y := range []mask.Mask{0, 2, 5, 7, math.MaxUint32} {
					b := made(t, board.Cell{Value: asked, Seen: a}, board.Cell{Value: 41, Seen: x}, board.Cell{Value: 42, Seen: y}, board.Cell{})
					value := int32(41)
					if asked == 0 {
						value = 42
					}
					got := program{l: []code.Code{{Op: code.Load, A: 1}, {Op: code.Load, A: 2, N: 1}, {Op: code.Load, A: 3, N: 2}, {Op: code.Select, A: 1, B: 2, C: 3}, {Op: code.Store, A: 1, N: 3}}, b: b, all: 3}.run()
					mustBe(t, asked, got, Result{Board: with(t, b, 3, board.Cell{Value: value, Seen: a & x & y}), Touched: 8, Used: 5})
				}
			}
		}
	}
}

// TestSelectOfItself selects where A is B, and is C.
func TestSelectOfItself(t *testing.T) {
	for _, c := range []struct {
		asked, want int32
		b, c        byte
	}{{5, 5, 1, 2}, {0, 42, 1, 2}, {5, 42, 2, 1}, {0, 0, 2, 1}, {5, 5, 1, 1}, {0, 0, 1, 1}} {
		b := made(t, board.Cell{Value: c.asked, Seen: 3}, board.Cell{Value: 42, Seen: 7}, board.Cell{})
		got := program{l: []code.Code{{Op: code.Load, A: 1}, {Op: code.Load, A: 2, N: 1}, {Op: code.Select, A: 1, B: c.b, C: c.c}, {Op: code.Store, A: 1, N: 2}}, b: b, all: 7}.run()
		mustBe(t, c, got, Result{Board: with(t, b, 2, board.Cell{Value: c.want, Seen: 3}), Touched: 4, Used: 4})
	}
}

// P9.1: Branch, Jump, Stop, and the fuel

// trace answers a program that stores into the cell i at the place i, where nothing else stands.
func trace(size int, others map[int]code.Code) []code.Code {
	l := make([]code.Code, size)
	for i := range l {
		l[i] = code.Code{Op: code.Store, N: int32(i)}
		if c, other := others[i]; other {
			l[i] = c
		}
	}
	return l
}

// TestWhereItGoesOn tells by the cells that are touched which instructions were followed.
func TestWhereItGoesOn(t *testing.T) {
	for _, c := range []struct {
		name   string
		others map[int]code.Code
		bits   uint64
		used   int
		err    api.Errno
	}{
		{"straight on", nil, 63, 6, api.OK},
		{"a stop at first", map[int]code.Code{0: {Op: code.Stop}}, 0, 1, api.OK},
		{"a stop within", map[int]code.Code{3: {Op: code.Stop}}, 7, 4, api.OK},
		{"a stop at last", map[int]code.Code{5: {Op: code.Stop}}, 31, 6, api.OK},
		{"a jump on", map[int]code.Code{1: {Op: code.Jump, N: 4}}, 1 | 16 | 32, 4, api.OK},
		{"a jump to the next one", map[int]code.Code{1: {Op: code.Jump, N: 2}}, 63 - 2, 6, api.OK},
		{"a jump behind the last one", map[int]code.Code{1: {Op: code.Jump, N: 6}}, 1, 2, api.OK},
		{"a jump back", map[int]code.Code{0: {Op: code.Jump, N: 3}, 4: {Op: code.Jump, N: 1}, 2: {Op: code.Stop}}, 8 | 2, 5, api.OK},
		{"a jump to itself", map[int]code.Code{2: {Op: code.Jump, N: 2}}, 0, 400, api.ErrFuel},
		{"a branch of 0", map[int]code.Code{1: {Op: code.Branch, A: 1, N: 4}}, 1 | 16 | 32, 4, api.OK},
		{"a branch of 0 behind the last one", map[int]code.Code{1: {Op: code.Branch, A: 1, N: 6}}, 1, 2, api.OK},
		{"a branch of 0 back", map[int]code.Code{5: {Op: code.Branch, A: 1}}, 0, 400, api.ErrFuel},
		{"a branch of 1", map[int]code.Code{0: {Op: code.Set, A: 1, N: 1}, 1: {Op: code.Branch, A: 1, N: 4}}, 63 - 3, 6, api.OK},
		{"a branch of -1", map[int]code.Code{0: {Op: code.Set, A: 1, N: -1}, 1: {Op: code.Branch, A: 1, N: 4}}, 63 - 3, 6, api.OK},
		{"a branch of 2^16", map[int]code.Code{0: {Op: code.Set, A: 1, N: 1 << 16}, 1: {Op: code.Branch, A: 1}}, 63 - 3, 6, api.OK},
	} {
		b := filled(t, 6, 0)
		want := b
		for i := range 6 {
			if c.bits>>i&1 == 1 {
				want = with(t, want, i, board.Cell{Value: 0, Seen: 3})
			}
		}
		mustBe(t, c.name, program{l: trace(6, c.others), b: b, all: 3}.run(), Result{Board: want, Touched: c.bits, Used: c.used, Err: c.err})
	}
}

// round answers a program that goes round n times, of 3 instructions each, ahead of those behind it; it uses 2 + 3 * n of the fuel: the last Branch goes on behind the others.
func round(n int32, behind ...code.Code) []code.Code {
	l := []code.Code{{Op: code.Set, A: 1, N: n}, {Op: code.Set, A: 2, N: -1}, {Op: code.Add, A: 1, B: 1, C: 2}, {Op: code.Branch, A: 1, N: 5}, {Op: code.Jump, N: 2}}
	return append(l, behind...)
}

// TestFuelEdges goes round up to where the fuel ends, and follows some more: the last one that may be followed is the 400th.
func TestFuelEdges(t *testing.T) {
	b := filled(t, 1, 1)
	done := with(t, b, 0, board.Cell{Value: 0, Seen: 1})
	for rounds, ahead := range map[int32]int{1: 4, 2: 7, 100: 301, 130: 391, 131: 394, 132: 397, 133: 400} {
		for behind := range 12 {
			used := ahead + behind
			want := Result{Board: done, Touched: 1, Used: used}
			switch {
			case used > 400:
				want = Result{Board: b, Used: 400, Err: api.ErrFuel}
			case behind == 0:
				want = Result{Board: b, Used: used}
			}
			stores := slices.Repeat([]code.Code{{Op: code.Store}}, behind)
			mustBe(t, []int{int(rounds), behind}, program{l: round(rounds, stores...), b: b, all: 1}.run(), want)
			if behind == 0 {
				continue
			}
			stores[behind-1] = code.Code{Op: code.Stop}
			if got := (program{l: round(rounds, stores...), b: b, all: 1}).run(); got.Used != want.Used || got.Err != want.Err {
				t.Errorf("%d rounds, and a stop %d behind them: %v after %d", rounds, behind, got.Err, got.Used)
			}
		}
	}
}

// TestErrorsOfTheLastOne makes errors with the last of the fuel: they are what they are, not ErrFuel.
func TestErrorsOfTheLastOne(t *testing.T) {
	b := filled(t, 1, 1)
	for _, c := range []struct {
		last code.Code
		err  api.Errno
	}{{code.Code{Op: code.LoadAt, B: 2}, api.ErrIndex}, {code.Code{Op: code.Branch, A: 3}, api.ErrTaint}, {code.Code{Op: code.Stop}, api.OK}} {
		l := round(132, code.Code{Op: code.Load, A: 3}, code.Code{Op: code.Load, A: 3}, c.last)
		mustBe(t, c.err, program{l: l, b: b, all: 3}.run(), Result{Board: b, Used: 400, Err: c.err})
		l = round(132, code.Code{Op: code.Load, A: 3}, code.Code{Op: code.Load, A: 3}, code.Code{Op: code.Load, A: 3}, c.last)
		mustBe(t, c.err, program{l: l, b: b, all: 3}.run(), Result{Board: b, Used: 400, Err: api.ErrFuel})
	}
}

// P9.1: Reveal

// TestReveal shows a cell of each label to each mask.
func TestReveal(t *testing.T) {
	for _, all := range []mask.Mask{0, 1, 7, 15, math.MaxUint32} {
		for _, seen := range masks() {
			for _, to := range masks() {
				b := with(t, filled(t, 4, 1), 2, board.Cell{Value: -8, Seen: seen})
				got := program{l: []code.Code{{Op: code.Reveal, B: 3, N: 2, Mask: to}}, b: b, all: all}.run()
				want := Result{Board: with(t, b, 2, board.Cell{Value: -8, Seen: seen | to&all}), Touched: 4, Used: 1}
				if fresh := to & all &^ seen; fresh != 0 {
					want.Shows = []Show{{Cell: 2, To: fresh, Value: -8}}
				}
				mustBe(t, []mask.Mask{all, seen, to}, got, want)
			}
		}
	}
}

// TestRevealAt shows the cells N + B.
func TestRevealAt(t *testing.T) {
	for _, size := range []int{1, 3, 48} {
		b := filled(t, size, 1)
		for n := range size {
			for _, index := range numbers() {
				got := program{l: []code.Code{{Op: code.Set, A: 7, N: index}, {Op: code.Reveal, B: 7, N: int32(n), Mask: 2}}, b: b, all: 3}.run()
				i := int64(n) + int64(index)
				c, there := b.At(int(i))
				if !there {
					mustBe(t, i, got, Result{Board: b, Used: 2, Err: api.ErrIndex})
					continue
				}
				want := with(t, b, int(i), board.Cell{Value: c.Value, Seen: 3})
				mustBe(t, i, got, Result{Board: want, Touched: 1 << i, Shows: []Show{{Cell: int(i), To: 2, Value: c.Value}}, Used: 2})
			}
		}
	}
}

// TestRevealsOneBehindTheOther shows a cell again, and with another value: the Shows stand as they came.
func TestRevealsOneBehindTheOther(t *testing.T) {
	b := made(t, board.Cell{Value: 5}, board.Cell{Value: 6, Seen: 1}, board.Cell{Value: 7, Seen: 15})
	got := program{l: []code.Code{
		{Op: code.Reveal, N: 1, Mask: 2},
		{Op: code.Reveal, Mask: 1},
		{Op: code.Reveal, Mask: 3},
		{Op: code.Reveal, Mask: 3},
		{Op: code.Reveal, N: 2, Mask: 8},
		{Op: code.Load, A: 1, N: 1},
		{Op: code.Reveal, N: 1, Mask: 12},
		{Op: code.Roll, A: 2, N: 1},
		{Op: code.Store, A: 2, N: 1},
		{Op: code.Reveal, N: 1, Mask: 9},
		{Op: code.Store, A: 1},
	}, b: b, all: 15}.run()
	mustBe(t, "many", got, Result{
		Board:   made(t, board.Cell{Value: 6, Seen: 3}, board.Cell{Value: 0, Seen: 9}, board.Cell{Value: 7, Seen: 15}),
		Dice:    dice.Dice{}.Skip(1),
		Touched: 7,
		Shows:   []Show{{1, 2, 6}, {0, 1, 5}, {0, 2, 5}, {1, 12, 6}, {1, 9, 0}},
		Used:    11,
	})
}

// P9.1: Roll, Shuffle

func TestRoll(t *testing.T) {
	b := filled(t, 2, 3)
	for _, n := range []int32{1, 2, 3, 6, 52, 100, 1000, 1 << 16, 1 << 30, math.MaxInt32 - 1, math.MaxInt32} {
		for _, state := range []uint64{0, 1, 12345, 1 << 63, math.MaxUint64} {
			d := dice.Dice{State: state}
			x, one := d.Below(uint32(n))
			y, two := one.Below(uint32(n))
			got := program{l: []code.Code{{Op: code.Roll, A: 4, N: n}, {Op: code.Store, A: 4}, {Op: code.Roll, A: 4, N: n}, {Op: code.Store, A: 4, N: 1}}, b: b, d: d, all: 3}.run()
			mustBe(t, n, got, Result{Board: made(t, board.Cell{Value: int32(x)}, board.Cell{Value: int32(y)}), Dice: two, Touched: 3, Used: 4})
		}
	}
}

// TestShuffle shuffles each row of cells of some boards: those beside it stay.
func TestShuffle(t *testing.T) {
	for _, size := range []int{1, 2, 5, 48} {
		cells := filled(t, size, 7).Cells()
		for first := range size {
			for many := 1; many <= size-first; many++ {
				d := dice.Dice{State: uint64(first*100 + many)}
				var values []int32
				for _, c := range cells[first : first+many] {
					values = append(values, c.Value)
				}
				mixed, then := d.Shuffle(values)
				want := slices.Clone(cells)
				bits := uint64(0)
				for i, value := range mixed {
					want[first+i] = board.Cell{Value: value}
					bits += 1 << (first + i)
				}
				got := program{l: []code.Code{{Op: code.Shuffle, N: int32(first), C: byte(many)}}, b: made(t, cells...), d: d, all: 7}.run()
				mustBe(t, []int{size, first, many}, got, Result{Board: made(t, want...), Dice: then, Touched: bits, Used: 1})
			}
		}
	}
}

// P9.1: codes that aren't Right

func TestWrongCodes(t *testing.T) {
	b, d := filled(t, 4, 2), dice.Dice{State: 5}
	moves := []int32{1, 2}
	store := code.Code{Op: code.Store}
	for _, l := range [][]code.Code{
		{{Op: 26}}, {{Op: 255}}, {store, {Op: 26}}, {{Op: code.Stop}, {Op: 26}}, {{Op: code.Jump, N: 2}, {Op: 255}},
		{{Op: code.Set, A: 8}}, {{Op: code.Add, B: 8}}, {{Op: code.Add, C: 8}}, {{Op: code.Add, C: 255}}, {{Op: code.Stop, A: 1}}, {{Op: code.Stop, N: 1}}, {{Op: code.Store, Mask: 1}},
		{store, {Op: code.Load, N: 4}}, {store, {Op: code.Store, N: -1}}, {{Op: code.LoadAt, N: 4}}, {{Op: code.StoreAt, N: math.MaxInt32}}, {{Op: code.Reveal, N: 4}},
		{{Op: code.Jump, N: 2}}, {{Op: code.Branch, N: -1}}, {{Op: code.Move, N: 2}}, {{Op: code.Move, N: -1}},
		{{Op: code.Roll}}, {{Op: code.Roll, N: -1}}, {{Op: code.Shuffle}}, {{Op: code.Shuffle, C: 5}}, {{Op: code.Shuffle, N: 3, C: 2}}, {{Op: code.Shuffle, C: 255}},
		make([]code.Code, 97), slices.Repeat([]code.Code{store}, 1000),
	} {
		mustBe(t, l[:min(3, len(l))], Run(l, b, d, moves, 1, 3), Result{Board: b, Dice: d, Err: api.ErrForm})
	}
}

// TestAsManyPlayersAsMoves runs a code with fewer moves, and with fewer cells, than it needs.
func TestAsManyPlayersAsMoves(t *testing.T) {
	for many := range 50 {
		for n := range int32(50) {
			b := filled(t, min(many, 48), 1)
			got := program{l: []code.Code{{Op: code.Move, N: n}}, b: b, moves: make([]int32, many), all: 3}.run()
			if want := int(n) < many; (got.Err == api.OK) != want || !want && got.Err != api.ErrForm {
				t.Errorf("the move of %d, of %d: %v", n, many, got.Err)
			}
			got = program{l: []code.Code{{Op: code.Load, N: n}}, b: b, all: 3}.run()
			if want := int(n) < b.Len(); (got.Err == api.OK) != want || !want && got.Err != api.ErrForm {
				t.Errorf("the cell %d, of %d: %v", n, b.Len(), got.Err)
			}
		}
	}
}

// TestNothing runs what has nothing.
func TestNothing(t *testing.T) {
	for _, l := range [][]code.Code{nil, {}} {
		mustBe(t, "zero", Run(l, board.Board{}, dice.Dice{}, nil, 0, 0), Result{})
		b, d := filled(t, 3, 2), dice.Dice{State: 9}
		mustBe(t, "some", Run(l, b, d, []int32{}, 5, 3), Result{Board: b, Dice: d})
	}
	longest := make([]code.Code, 96)
	mustBe(t, "96 stops", Run(longest, board.Board{}, dice.Dice{}, nil, 0, 0), Result{Used: 1})
	longest = slices.Repeat([]code.Code{{Op: code.Set}}, 96)
	mustBe(t, "96", Run(longest, board.Board{}, dice.Dice{}, nil, 0, 0), Result{Used: 96})
}

// P9.1: Compute

// computed is what the document says of a computation, in whole numbers that don't go round: it is cut to 32 bits at the end.
func computed(op byte, x, y int32) int32 {
	a, b, z := big.NewInt(int64(x)), big.NewInt(int64(y)), new(big.Int)
	shift := uint((int64(y)%32 + 32) % 32)
	switch op {
	case code.Add:
		z.Add(a, b)
	case code.Sub:
		z.Sub(a, b)
	case code.Mul:
		z.Mul(a, b)
	case code.Div:
		if y != 0 {
			z.Quo(a, b)
		}
	case code.Mod:
		if y != 0 {
			z.Rem(a, b)
		}
	case code.And:
		z.And(a, b)
	case code.Or:
		z.Or(a, b)
	case code.Xor:
		z.Xor(a, b)
	case code.Shl:
		z.Lsh(a, shift)
	case code.Shr:
		z.Rsh(a, shift)
	case code.Less:
		if a.Cmp(b) < 0 {
			z.SetInt64(1)
		}
	case code.Equal:
		if a.Cmp(b) == 0 {
			z.SetInt64(1)
		}
	}
	low := z.And(z, big.NewInt(math.MaxUint32)).Uint64()
	return int32(uint32(low))
}

func TestCompute(t *testing.T) {
	for op := range 256 {
		for _, x := range numbers() {
			for _, y := range numbers() {
				if op > 30 && (x+y)%7 != 0 {
					continue
				}
				if got, want := Compute(byte(op), x, y), computed(byte(op), x, y); got != want {
					t.Fatalf("%d of %d, %d: %d, not %d", op, x, y, got, want)
				}
			}
		}
	}
}

// TestComputeMixed takes numbers of all 32 bits.
func TestComputeMixed(t *testing.T) {
	rolls := rand.New(rand.NewSource(1))
	for range 20000 {
		op, x, y := byte(rolls.Intn(26)), int32(rolls.Uint32()), int32(rolls.Uint32())
		y >>= rolls.Intn(32)
		if got, want := Compute(op, x, y), computed(op, x, y); got != want {
			t.Fatalf("%d of %d, %d: %d, not %d", op, x, y, got, want)
		}
	}
}

func TestComputeByHand(t *testing.T) {
	for _, c := range []struct {
		op         byte
		x, y, want int32
	}{
		{code.Add, math.MaxInt32, 1, math.MinInt32},
		{code.Sub, math.MinInt32, 1, math.MaxInt32},
		{code.Mul, 1 << 16, 1 << 16, 0},
		{code.Mul, math.MinInt32, -1, math.MinInt32},
		{code.Div, 7, -2, -3},
		{code.Div, -7, 2, -3},
		{code.Div, math.MinInt32, -1, math.MinInt32},
		{code.Div, math.MinInt32, 0, 0},
		{code.Mod, 7, -2, 1},
		{code.Mod, -7, 2, -1},
		{code.Mod, -7, -2, -1},
		{code.Mod, math.MinInt32, -1, 0},
		{code.Mod, 5, 0, 0},
		{code.And, -2, 7, 6},
		{code.Or, -8, 3, -5},
		{code.Xor, -1, 5, -6},
		{code.Shl, 1, 31, math.MinInt32},
		{code.Shl, 1, 32, 1},
		{code.Shl, 1, -1, math.MinInt32},
		{code.Shl, 3, 31, math.MinInt32},
		{code.Shr, math.MinInt32, 31, -1},
		{code.Shr, -8, 33, -4},
		{code.Shr, math.MaxInt32, -1, 0},
		{code.Less, math.MinInt32, math.MaxInt32, 1},
		{code.Less, 3, 3, 0},
		{code.Less, math.MaxInt32, math.MinInt32, 0},
		{code.Equal, -4, -4, 1},
		{code.Equal, math.MinInt32, math.MaxInt32, 0},
		{code.Set, 1, 1, 0},
		{code.Select, 1, 1, 0},
		{26, 1, 1, 0},
		{255, 1, 1, 0},
	} {
		if got := Compute(c.op, c.x, c.y); got != c.want {
			t.Errorf("%d of %d, %d: %d, not %d", c.op, c.x, c.y, got, c.want)
		}
	}
}

// TestRunComputes holds Run to Compute at each operation.
func TestRunComputes(t *testing.T) {
	b := filled(t, 1, 1)
	for op := byte(code.Add); op <= code.Equal; op++ {
		for _, x := range numbers()[:20] {
			for _, y := range numbers() {
				got := program{l: []code.Code{{Op: code.Set, A: 1, N: x}, {Op: code.Set, A: 2, N: y}, {Op: op, A: 3, B: 1, C: 2}, {Op: code.Store, A: 3}}, b: b, all: 3}.run()
				if c, _ := got.Board.At(0); c != (board.Cell{Value: computed(op, x, y), Seen: 3}) {
					t.Fatalf("%d of %d, %d: %v", op, x, y, c)
				}
			}
		}
	}
}

// P9.2

// TestTheExample is the document's.
func TestTheExample(t *testing.T) {
	b := made(t, board.Cell{Value: 41, Seen: 1}, board.Cell{Value: 3, Seen: 7})
	got := program{l: []code.Code{{Op: code.Load}, {Op: code.Set, A: 1, N: 1}, {Op: code.Add, A: 0, B: 0, C: 1}, {Op: code.Store, N: 1}}, b: b, all: 7}.run()
	mustBe(t, "the example", got, Result{Board: with(t, b, 1, board.Cell{Value: 42, Seen: 1}), Touched: 2, Used: 4})
}

// TestAtAnError stores, shows, rolls and shuffles, and then goes wrong: the Shows stay, and how many were followed.
func TestAtAnError(t *testing.T) {
	b, d := filled(t, 6, 1), dice.Dice{State: 77}
	ahead := []code.Code{
		{Op: code.Set, A: 5, N: 6},
		{Op: code.Store, A: 5, N: 1},
		{Op: code.Reveal, N: 3, Mask: 2},
		{Op: code.Shuffle, N: 4, C: 2},
		{Op: code.Roll, A: 6, N: 9},
		{Op: code.Reveal, N: 1, Mask: 2},
		{Op: code.Reveal, N: 2, Mask: 7},
	}
	shows := []Show{{3, 2, 1003}, {2, 2, 1002}}
	for _, c := range []struct {
		last code.Code
		used int
		err  api.Errno
	}{
		{code.Code{Op: code.LoadAt, B: 5}, 8, api.ErrIndex},
		{code.Code{Op: code.StoreAt, B: 5, N: 5}, 8, api.ErrIndex},
		{code.Code{Op: code.Reveal, B: 5, N: 1, Mask: 2}, 8, api.ErrIndex},
		{code.Code{Op: code.LoadAt, B: 6}, 8, api.ErrTaint},
		{code.Code{Op: code.StoreAt, B: 6}, 8, api.ErrTaint},
		{code.Code{Op: code.Reveal, B: 6, Mask: 2}, 8, api.ErrTaint},
		{code.Code{Op: code.Branch, A: 6, N: 9}, 8, api.ErrTaint},
		{code.Code{Op: code.Jump, N: 7}, 400, api.ErrFuel},
	} {
		l := append(slices.Clone(ahead), c.last, code.Code{Op: code.Reveal, Mask: 2})
		mustBe(t, c, program{l: l, b: b, d: d, all: 3}.run(), Result{Board: b, Dice: d, Shows: shows, Used: c.used, Err: c.err})
	}
	l := append(slices.Clone(ahead), code.Code{Op: code.Stop})
	got := program{l: l, b: b, d: d, all: 3}.run()
	if got.Err != api.OK || got.Touched != 62 || got.Board == b || got.Dice != d.Skip(2) || !slices.Equal(got.Shows, shows) || got.Used != 8 {
		t.Errorf("without an error: %v", got)
	}
}

func TestFuel(t *testing.T) {
	for used, want := range map[int]int{0: 400, 1: 399, 2: 398, 399: 1, 400: 0} {
		for _, r := range []Result{{Used: used}, {Used: used, Err: api.ErrFuel, Touched: 5, Shows: []Show{{1, 2, 3}}}} {
			if got := Fuel(r); got != want {
				t.Errorf("%d used: %d, not %d", used, got, want)
			}
		}
	}
	if got := Fuel(Run(round(20), board.Board{}, dice.Dice{}, nil, 0, 1)); got != 400-61 {
		t.Errorf("of 61: %d", got)
	}
	if got := Fuel(Run([]code.Code{{Op: 99}}, board.Board{}, dice.Dice{}, nil, 0, 1)); got != 400 {
		t.Errorf("of a wrong code: %d", got)
	}
}

// P9.1, P9.2: all of it, held to another machine

// other is a machine that was written off the document a second time: values and labels stand in lists of their own, by a table of what the operations do.
type other struct {
	values, labels  []int64 // the cells', and behind them the registers'
	cells           int
	d               dice.Dice
	touched         map[int]bool
	shows           []Show
	at, used        int
	err             api.Errno
	moves           []int32
	tick, everybody int64
}

// set puts a value and a label somewhere; what is a cell is touched.
func (m *other) set(i int, value, label int64) {
	m.values[i], m.labels[i] = value, label
	if i < m.cells {
		m.touched[i] = true
	}
}

// public tells whether all see the register.
func (m *other) public(r int) bool {
	if m.labels[r]&m.everybody == m.everybody {
		return true
	}
	m.err = api.ErrTaint
	return false
}

// aim answers the cell that is so far from n as the register says; -1: there is none.
func (m *other) aim(n int32, r int) int {
	if !m.public(r) {
		return -1
	}
	i := int64(n) + m.values[r]
	if i < 0 || i >= int64(m.cells) {
		m.err = api.ErrIndex
		return -1
	}
	return int(i)
}

// do follows one instruction.
func (m *other) do(c code.Code) {
	a, b, x, n := m.cells+int(c.A), m.cells+int(c.B), m.cells+int(c.C), int(c.N)
	m.at++
	m.used++
	switch word := code.Word(c.Op); word {
	case "stop":
		m.at = 1 << 20
	case "set":
		m.set(a, int64(c.N), m.everybody)
	case "clock":
		m.set(a, int64(int32(uint32(m.tick))), m.everybody)
	case "load":
		m.set(a, m.values[n], m.labels[n])
	case "store":
		m.set(n, m.values[a], m.labels[a])
	case "loadat", "storeat", "reveal":
		i := m.aim(c.N, b)
		if i < 0 {
			return
		}
		switch word {
		case "loadat":
			m.set(a, m.values[i], m.labels[i])
		case "storeat":
			m.set(i, m.values[a], m.labels[a])
		case "reveal":
			fresh := int64(c.Mask) & m.everybody & ^m.labels[i]
			if fresh != 0 {
				m.shows = append(m.shows, Show{i, mask.Mask(fresh), int32(m.values[i])})
			}
			m.set(i, m.values[i], m.labels[i]+fresh)
		}
	case "select":
		from := x
		if m.values[a] != 0 {
			from = b
		}
		m.set(a, m.values[from], m.labels[a]&m.labels[b]&m.labels[x])
	case "branch":
		if m.public(a) && m.values[a] == 0 {
			m.at = n
		}
	case "jump":
		m.at = n
	case "move":
		m.set(a, int64(m.moves[n]), 1<<n)
	case "roll":
		value, d := m.d.Below(uint32(c.N))
		m.d = d
		m.set(a, int64(value), 0)
	case "shuffle":
		m.shuffle(n, int(c.C))
	default:
		m.set(a, int64(computed(c.Op, int32(m.values[b]), int32(m.values[x]))), m.labels[b]&m.labels[x])
	}
}

// shuffle changes the places of the cells' values, from the last one down.
func (m *other) shuffle(first, many int) {
	for i := many - 1; i >= 0; i-- {
		m.set(first+i, m.values[first+i], 0)
		if i > 0 {
			j, d := m.d.Below(uint32(i + 1))
			m.d = d
			m.values[first+i], m.values[first+int(j)] = m.values[first+int(j)], m.values[first+i]
		}
	}
}

// told is what the document says of a run.
func told(c program) Result {
	if !code.Right(c.l, c.b.Len(), len(c.moves)) {
		return Result{Board: c.b, Dice: c.d, Err: api.ErrForm}
	}
	m := other{cells: c.b.Len(), d: c.d, touched: map[int]bool{}, moves: c.moves, tick: int64(c.tick), everybody: int64(c.all)}
	for _, cell := range c.b.Cells() {
		m.values, m.labels = append(m.values, int64(cell.Value)), append(m.labels, int64(cell.Seen))
	}
	for range 8 {
		m.values, m.labels = append(m.values, 0), append(m.labels, m.everybody)
	}
	for m.err == api.OK && m.at < len(c.l) {
		if m.used == 400 {
			m.err = api.ErrFuel
			break
		}
		m.do(c.l[m.at])
	}
	r := Result{Board: c.b, Dice: c.d, Shows: m.shows, Used: m.used, Err: m.err}
	if m.err == api.OK {
		for i := range m.cells {
			r.Board, _ = r.Board.Put(i, board.Cell{Value: int32(m.values[i]), Seen: mask.Mask(m.labels[i])})
			if m.touched[i] {
				r.Touched += 1 << i
			}
		}
		r.Dice = m.d
	}
	return r
}

// instruction answers one that may be; of registers 5 to 7 are mostly such as all see, so that programs go far.
func instruction(rolls *rand.Rand, size, cells, players int) code.Code {
	secret, public := byte(rolls.Intn(5)), byte(5+rolls.Intn(3))
	if rolls.Intn(30) == 0 {
		secret, public = public, secret
	}
	cell := int32(rolls.Intn(cells))
	switch rolls.Intn(16) {
	case 0:
		return code.Code{Op: code.Set, A: public, N: int32(rolls.Intn(5)) - 1}
	case 1:
		return code.Code{Op: code.Clock, A: secret}
	case 2, 3:
		return code.Code{Op: code.Load, A: secret, N: cell}
	case 4:
		return code.Code{Op: code.Store, A: byte(rolls.Intn(8)), N: cell}
	case 5:
		return code.Code{Op: code.LoadAt, A: secret, B: public, N: cell / 2}
	case 6:
		return code.Code{Op: code.StoreAt, A: secret, B: public, N: cell / 2}
	case 7, 8:
		return code.Code{Op: byte(code.Add + rolls.Intn(12)), A: secret, B: byte(rolls.Intn(8)), C: byte(rolls.Intn(8))}
	case 9:
		return code.Code{Op: code.Select, A: secret, B: byte(rolls.Intn(8)), C: byte(rolls.Intn(8))}
	case 10:
		return code.Code{Op: code.Branch, A: public, N: int32(rolls.Intn(size + 1))}
	case 11:
		return code.Code{Op: code.Move, A: secret, N: int32(rolls.Intn(players))}
	case 12:
		return code.Code{Op: code.Reveal, B: public, N: cell / 2, Mask: mask.Mask(rolls.Intn(32))}
	case 13:
		return code.Code{Op: code.Roll, A: secret, N: 1 + int32(rolls.Intn(6))}
	case 14:
		return code.Code{Op: code.Shuffle, N: cell, C: byte(1 + rolls.Intn(cells-int(cell)))}
	}
	return code.Code{Op: byte(rolls.Intn(26)), A: secret, B: public, C: secret, N: int32(rolls.Intn(size))}
}

// mixed answers a run of all sorts, now and then with a wrong code. Labels are within all.
func mixed(rolls *rand.Rand) program {
	size, cells, players := 1+rolls.Intn(24), 1+rolls.Intn(10), 1+rolls.Intn(4)
	c := program{d: dice.Dice{State: rolls.Uint64()}, tick: uint32(rolls.Intn(3)), all: mask.All(players + rolls.Intn(2))}
	for range size {
		c.l = append(c.l, instruction(rolls, size, cells, players))
		if last := &c.l[len(c.l)-1]; !code.Right([]code.Code{*last}, cells, players) && rolls.Intn(20) != 0 && last.Op != code.Branch && last.Op != code.Jump {
			*last = code.Code{Op: code.Set, A: 5}
		}
	}
	for range cells {
		seen := mask.Mask(rolls.Uint32()) & c.all
		if rolls.Intn(3) == 0 {
			seen = c.all
		}
		c.b, _ = board.New(append(c.b.Cells(), board.Cell{Value: int32(rolls.Intn(5)) - 1, Seen: seen})...)
	}
	for range players {
		c.moves = append(c.moves, int32(rolls.Intn(4)))
	}
	return c
}

func TestMixed(t *testing.T) {
	rolls := rand.New(rand.NewSource(2))
	errors := map[api.Errno]int{}
	for range 60000 {
		c := mixed(rolls)
		got, want := c.run(), told(c)
		if !same(got, want) {
			t.Fatalf("%v\n%v\nnot\n%v\n%v, %v", c.l, got, want, got.Board.Cells(), want.Board.Cells())
		}
		errors[got.Err]++
	}
	for _, e := range []api.Errno{api.OK, api.ErrForm, api.ErrTaint, api.ErrIndex, api.ErrFuel} {
		if errors[e] < 500 {
			t.Errorf("%d runs answer %v: too few tell nothing", errors[e], e)
		}
	}
}

// P9.3

// unlike answers c with other things wherever o sees nothing of them: hidden values, dice, others' moves.
func unlike(rolls *rand.Rand, c program, o int) program {
	cells := c.b.Cells()
	for i := range cells {
		if !cells[i].Seen.Has(o) && rolls.Intn(2) == 0 {
			cells[i].Value = int32(rolls.Intn(5)) - 1
		}
	}
	c.b, _ = board.New(cells...)
	c.moves = slices.Clone(c.moves)
	for i := range c.moves {
		if i != o && rolls.Intn(2) == 0 {
			c.moves[i] = int32(rolls.Intn(4))
		}
	}
	if rolls.Intn(4) != 0 {
		c.d.State = rolls.Uint64()
	}
	return c
}

// parts answers how many Shows of both say the same to o, and whether the next one shows it values that aren't the same.
func parts(t *testing.T, a, b []Show, o int) (int, bool) {
	t.Helper()
	for i := range min(len(a), len(b)) {
		if a[i].Cell != b[i].Cell || a[i].To != b[i].To {
			t.Fatalf("the Show %d: %v, %v", i, a[i], b[i])
		}
		if a[i].To.Has(o) && a[i].Value != b[i].Value {
			return i, true
		}
	}
	return min(len(a), len(b)), false
}

// TestNothingIsTold runs two boards that are Alike for an observer.
func TestNothingIsTold(t *testing.T) {
	rolls := rand.New(rand.NewSource(3))
	var ended, hidden, shown, wrong, apart int
	for range 120000 {
		c := mixed(rolls)
		o := rolls.Intn(c.all.Count())
		d := unlike(rolls, c, o)
		if !board.Alike(c.b, d.b, o) {
			t.Fatal("the boards aren't alike to begin with")
		}
		x, y := c.run(), d.run()
		many, differ := parts(t, x.Shows, y.Shows, o)
		if differ {
			apart++
			continue
		}
		if len(x.Shows) != many || len(y.Shows) != many || x.Err != y.Err || x.Used != y.Used || x.Touched != y.Touched || !board.Alike(x.Board, y.Board, o) {
			t.Fatalf("%v for %d of %v:\n%v, %v\n%v, %v", c.l, o, c.all.Text(), x, x.Board.Cells(), y, y.Board.Cells())
		}
		ended++
		if x.Err != api.OK {
			wrong++
		}
		if x.Board != y.Board {
			hidden++
		}
		if many > 0 {
			shown++
		}
	}
	for what, many := range map[string]int{"end alike": ended, "end with other hidden values": hidden, "show something": shown, "end with an error": wrong, "part": apart} {
		if many < 1000 {
			t.Errorf("%d %s: too few tell nothing", many, what)
		}
	}
}

// TestWhatComesOfASecret computes such as always is the same, or is one of two: who may not see the secret may not see that either.
func TestWhatComesOfASecret(t *testing.T) {
	secret := []code.Code{{Op: code.Load, A: 1}, {Op: code.Set, A: 2, N: 10}, {Op: code.Set, A: 3, N: 20}}
	for name, behind := range map[string][]code.Code{
		"chosen by it":     {{Op: code.Select, A: 1, B: 2, C: 3}, {Op: code.Store, A: 1, N: 1}},
		"it times 0":       {{Op: code.Mul, A: 1, B: 1, C: 4}, {Op: code.Store, A: 1, N: 1}},
		"it less itself":   {{Op: code.Sub, A: 1, B: 1, C: 1}, {Op: code.Store, A: 1, N: 1}},
		"held against one": {{Op: code.Equal, A: 4, B: 1, C: 2}, {Op: code.Store, A: 4, N: 1}},
	} {
		for _, value := range []int32{0, 10, 11} {
			b := made(t, board.Cell{Value: value, Seen: 1}, board.Cell{Value: 3, Seen: 7})
			got := program{l: append(slices.Clone(secret), behind...), b: b, all: 7}.run()
			if c, _ := got.Board.At(1); got.Err != api.OK || c.Seen != 1 {
				t.Errorf("%s, of %d: %v, for %v", name, value, got.Err, c.Seen.Text())
			}
		}
	}
}

// P1, P2, and the rules of memory

// TestAllArguments hands in all sorts of wrong things: each call ends.
func TestAllArguments(t *testing.T) {
	rolls := rand.New(rand.NewSource(4))
	for range 30000 {
		l := make([]code.Code, rolls.Intn(6))
		for i := range l {
			l[i] = code.Code{Op: byte(rolls.Intn(30)), A: byte(rolls.Intn(10)), B: byte(rolls.Intn(10)), C: byte(rolls.Intn(60)) * byte(rolls.Intn(2)), N: int32(rolls.Uint32()) >> rolls.Intn(32), Mask: mask.Mask(rolls.Uint32())}
		}
		c := program{l: l, b: filled(t, rolls.Intn(49), mask.Mask(rolls.Uint32())), d: dice.Dice{State: rolls.Uint64()}, moves: make([]int32, rolls.Intn(8)), tick: rolls.Uint32(), all: mask.Mask(rolls.Uint32())}
		got := c.run()
		if right := code.Right(l, c.b.Len(), len(c.moves)); right != (got.Err != api.ErrForm) {
			t.Fatalf("%v: %v", l, got.Err)
		}
		if !same(got, told(c)) {
			t.Fatalf("%v: %v, not %v", l, got, told(c))
		}
	}
}

// TestTheSameAgain runs each program twice, and looks what became of that which was handed in.
func TestTheSameAgain(t *testing.T) {
	rolls := rand.New(rand.NewSource(5))
	for range 3000 {
		c := mixed(rolls)
		size, players := len(c.l), len(c.moves)
		l, moves := append(slices.Clone(c.l), code.Code{Op: 77}), append(slices.Clone(c.moves), 99)
		wasL, wasMoves, wasBoard := slices.Clone(l), slices.Clone(moves), c.b.Cells()
		c.l, c.moves = l[:size], moves[:players]
		one := c.run()
		if !slices.Equal(l, wasL) || !slices.Equal(moves, wasMoves) || !slices.Equal(c.b.Cells(), wasBoard) {
			t.Fatal("what is handed in, or its spare room, is changed")
		}
		two := c.run()
		if !same(one, two) {
			t.Fatalf("another answer the second time: %v, %v", one, two)
		}
		clear(l)
		clear(moves)
		if !same(one, two) {
			t.Fatal("the answer hangs on what is written over")
		}
	}
}

func TestAnswersShareNoMemory(t *testing.T) {
	b := filled(t, 3, 0)
	c := program{l: []code.Code{{Op: code.Reveal, Mask: 1}, {Op: code.Reveal, N: 1, Mask: 1}, {Op: code.Reveal, N: 2, Mask: 1}}, b: b, all: 1}
	one, two := c.run(), c.run()
	for i := range one.Shows[:cap(one.Shows)] {
		one.Shows[:cap(one.Shows)][i] = Show{9, 9, 9}
	}
	if want := []Show{{0, 1, 1000}, {1, 1, 1001}, {2, 1, 1002}}; !slices.Equal(two.Shows, want) || !slices.Equal(c.run().Shows, want) {
		t.Error("two answers share their Shows")
	}
	wrong := c
	wrong.l = append(slices.Clone(c.l), code.Code{Op: code.Jump, N: 3})
	x, y := wrong.run(), wrong.run()
	clear(x.Shows[:cap(x.Shows)])
	if len(y.Shows) != 3 || y.Shows[0] != (Show{0, 1, 1000}) {
		t.Error("two answers beside an error share their Shows")
	}
}
