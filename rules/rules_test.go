package rules

import (
	"bytes"
	"encoding/binary"
	"encoding/hex"
	"math"
	"math/rand"
	"slices"
	"testing"

	"hoodwink/api"
	"hoodwink/board"
	"hoodwink/code"
	"hoodwink/dice"
	"hoodwink/mask"
	"hoodwink/vm"
)

// counts are numbers of observers, of players and the like, those at the edges among them.
func counts() []int {
	l := []int{math.MinInt, math.MinInt32, 63, 64, 127, 128, 255, 256, 257, 258, 1 << 16, math.MaxInt32, 1 << 32, 1<<32 + 1, math.MaxInt}
	for n := -3; n < 50; n++ {
		l = append(l, n)
	}
	return l
}

// words are numbers of 32 bits at the edges.
func words() []uint32 {
	return []uint32{0, 1, 2, 3, 4, 5, 127, 128, 255, 256, 1<<31 - 1, 1 << 31, 1<<31 + 1, math.MaxUint32 - 1, math.MaxUint32}
}

// observers are those at the edges, and some that no game has.
func observers() []int {
	return []int{0, 1, 2, 3, 4, 5, 6, 7, 30, 31, 32, 33, -1, -32, math.MaxInt, math.MinInt}
}

// small is a game that may be: three observers, two of them players, four moves. It stores the moves of both.
func small() Game {
	return Game{
		Observers: 3,
		Players:   2,
		Moves:     4,
		Default:   1,
		Cells:     []board.Cell{{Value: 10, Seen: 7}, {Value: 11, Seen: 1}, {Value: 12}, {Value: 13, Seen: 6}, {Value: 14}},
		Code: []code.Code{
			{Op: code.Move, A: 1, N: 0}, {Op: code.Store, A: 1, N: 0},
			{Op: code.Move, A: 1, N: 1}, {Op: code.Store, A: 1, N: 1},
		},
	}
}

// plain is a game without cells and code.
func plain(observers, players int) Game {
	return Game{Observers: observers, Players: players, Moves: 1}
}

// wrong are games that may not be, each in one thing alone.
func wrong() map[string]Game {
	all := map[string]Game{"the zero game": {}}
	change := func(name string, f func(g *Game)) {
		g := small()
		f(&g)
		all[name] = g
	}
	change("no observers", func(g *Game) { g.Observers = 0 })
	change("observers below 0", func(g *Game) { g.Observers = -1 })
	change("33 observers", func(g *Game) { g.Observers = 33 })
	change("257 observers", func(g *Game) { g.Observers = 257 })
	change("the most observers", func(g *Game) { g.Observers = math.MaxInt })
	change("more players than observers", func(g *Game) { g.Players = 4 })
	change("no players", func(g *Game) { g.Players, g.Code = 0, nil })
	change("players below 0", func(g *Game) { g.Players, g.Code = -1, nil })
	change("7 players", func(g *Game) { g.Observers, g.Players = 8, 7 })
	change("the most players", func(g *Game) { g.Players = math.MaxInt })
	change("the most of both", func(g *Game) { g.Observers, g.Players = math.MaxInt, math.MaxInt })
	change("no moves", func(g *Game) { g.Moves, g.Default = 0, 0 })
	change("no move to default to", func(g *Game) { g.Default = 4 })
	change("a default far above", func(g *Game) { g.Default = math.MaxUint32 })
	change("49 cells", func(g *Game) { g.Cells = make([]board.Cell, 49) })
	change("305 cells", func(g *Game) { g.Cells = make([]board.Cell, 305) })
	change("a label of another", func(g *Game) { g.Cells[4].Seen = 8 })
	change("a label of another, too", func(g *Game) { g.Cells[0].Seen = 15 })
	change("a label of the last one", func(g *Game) { g.Cells[2].Seen = 1 << 31 })
	change("97 instructions", func(g *Game) { g.Code = make([]code.Code, 97) })
	change("a cell that isn't there", func(g *Game) { g.Code[1].N = 5 })
	change("a player that isn't there", func(g *Game) { g.Code[2].N = 2 })
	change("no operation", func(g *Game) { g.Code[3] = code.Code{Op: 26} })
	change("no cell for the code", func(g *Game) { g.Cells = nil })
	return all
}

// made answers the board of these cells.
func made(t *testing.T, cells ...board.Cell) board.Board {
	t.Helper()
	b, e := board.New(cells...)
	if e != api.OK {
		t.Fatalf("%d cells: %v", len(cells), e)
	}
	return b
}

// started answers the state at first.
func started(t *testing.T, g Game, seed uint64, hidden ...int32) State {
	t.Helper()
	s, e := g.Start(seed, hidden)
	if e != api.OK {
		t.Fatalf("%v: %v", g, e)
	}
	return s
}

// with answers s with another cell at i.
func with(t *testing.T, s State, i int, c board.Cell) State {
	t.Helper()
	b, e := s.Board.Put(i, c)
	if e != api.OK {
		t.Fatalf("no cell %d", i)
	}
	s.Board = b
	return s
}

// mustBe holds a state to that which it should be.
func mustBe(t *testing.T, what any, got, want State) {
	t.Helper()
	if got != want {
		t.Errorf("%v: %v, dice %v, tick %v, not %v, dice %v, tick %v", what, got.Board.Cells(), got.Dice, got.Tick, want.Board.Cells(), want.Dice, want.Tick)
	}
}

// mustCome holds an outcome to that which it should be.
func mustCome(t *testing.T, what any, got, want Outcome) {
	t.Helper()
	if got.Touched != want.Touched || got.Err != want.Err || !slices.Equal(got.Shows, want.Shows) {
		t.Errorf("%v: came %v, not %v", what, got, want)
	}
}

// P10.1: Right

// may is what the document says of a game.
func may(g Game) bool {
	if g.Observers < 1 || g.Observers > 32 || g.Players < 1 || g.Players > 6 || g.Players > g.Observers {
		return false
	}
	if g.Moves < 1 || g.Default >= g.Moves || len(g.Cells) > 48 {
		return false
	}
	for _, c := range g.Cells {
		for o := g.Observers; o < 32; o++ {
			if uint32(c.Seen)>>o%2 != 0 {
				return false
			}
		}
	}
	return code.Right(g.Code, len(g.Cells), g.Players)
}

func TestRight(t *testing.T) {
	if !small().Right() {
		t.Error("a game that may be isn't Right")
	}
	for name, g := range wrong() {
		if g.Right() {
			t.Errorf("%s: it is Right", name)
		}
	}
}

func TestObserversAndPlayers(t *testing.T) {
	right := 0
	for _, o := range counts() {
		for _, p := range counts() {
			g := plain(o, p)
			if g.Right() != may(g) {
				t.Errorf("%d observers, %d players: %v", o, p, g.Right())
			}
			if g.Right() {
				right++
			}
		}
	}
	if want := 1 + 2 + 3 + 4 + 5 + 27*6; right != want {
		t.Errorf("%d games may be, not %d", right, want)
	}
}

func TestMovesAndDefault(t *testing.T) {
	for _, m := range words() {
		for _, d := range words() {
			g := plain(1, 1)
			g.Moves, g.Default = m, d
			if g.Right() != (d < m) {
				t.Errorf("default %d of %d moves: %v", d, m, g.Right())
			}
		}
	}
}

func TestHowManyCells(t *testing.T) {
	for n := range 400 {
		g := plain(1, 1)
		g.Cells = make([]board.Cell, n)
		if g.Right() != (n <= 48) {
			t.Errorf("%d cells: %v", n, g.Right())
		}
	}
}

// TestLabels asks of each observer, in a cell of each place, in games of all numbers of observers.
func TestLabels(t *testing.T) {
	for many := 1; many <= 32; many++ {
		g := plain(many, 1)
		for o := range 32 {
			for _, place := range []int{0, 1, 46, 47} {
				g.Cells = make([]board.Cell, 48)
				g.Cells[place].Seen = 1<<o | 1
				if g.Right() != (o < many) {
					t.Errorf("%d sees the cell %d of a game of %d: %v", o, place, many, g.Right())
				}
			}
		}
		g.Cells = []board.Cell{{Seen: mask.Mask(uint64(1)<<many - 1)}}
		if !g.Right() {
			t.Errorf("all of %d see a cell: it isn't Right", many)
		}
	}
}

// TestRightCode asks for the code's cells and players: none more than the game has.
func TestRightCode(t *testing.T) {
	for cells := range 49 {
		for players := 1; players <= 6; players++ {
			g := plain(6, players)
			g.Cells = make([]board.Cell, cells)
			for n := int32(-1); n < 50; n++ {
				g.Code = []code.Code{{Op: code.Load, N: n}}
				if g.Right() != (n >= 0 && int(n) < cells) {
					t.Errorf("load the cell %d of %d: %v", n, cells, g.Right())
				}
				g.Code = []code.Code{{}, {Op: code.Move, N: n}}
				if g.Right() != (n >= 0 && int(n) < players) {
					t.Errorf("the move of the player %d of %d: %v", n, players, g.Right())
				}
			}
		}
	}
	for n := range 120 {
		g := plain(1, 1)
		g.Code = make([]code.Code, n)
		if g.Right() != (n <= 96) {
			t.Errorf("%d instructions: %v", n, g.Right())
		}
	}
}

// TestRevealToOthers: of a Reveal's mask the chapter asks nothing.
func TestRevealToOthers(t *testing.T) {
	g := small()
	g.Code = []code.Code{{Op: code.Reveal, N: 2, Mask: math.MaxUint32}}
	if !g.Right() {
		t.Fatal("it isn't Right")
	}
	s := started(t, g, 1, 42)
	next, came := g.Step(s, nil)
	want := with(t, s, 2, board.Cell{Value: 42, Seen: 7})
	want.Tick = 1
	mustBe(t, "shown to all there are", next, want)
	mustCome(t, "shown to all there are", came, Outcome{Touched: 4, Shows: []vm.Show{{Cell: 2, To: 7, Value: 42}}})
}

// P10.1: All, Legal

func TestAll(t *testing.T) {
	for _, n := range counts() {
		want := mask.Mask(0)
		for o := range 32 {
			if o < n {
				want |= 1 << o
			}
		}
		for _, g := range []Game{{Observers: n}, plain(n, 1), plain(n, 6)} {
			if g.All() != want {
				t.Errorf("all of %d: %x, not %x", n, g.All(), want)
			}
		}
	}
}

// TestLegal asks games that aren't Right, too: of a move the document asks no more than that it is below Moves.
func TestLegal(t *testing.T) {
	for _, moves := range words() {
		for _, move := range words() {
			for _, g := range []Game{{Moves: moves}, {Observers: 1, Players: 1, Moves: moves}, {Observers: 2, Players: 2, Moves: moves, Default: moves / 2}} {
				if g.Legal(move) != (move < moves) {
					t.Errorf("the move %d of %d: %v", move, moves, g.Legal(move))
				}
			}
		}
	}
}

// P10.1: Start

func TestStart(t *testing.T) {
	g := small()
	for _, c := range []struct {
		hidden []int32
		two    int32
		four   int32
	}{
		{nil, 12, 14},
		{[]int32{}, 12, 14},
		{[]int32{90}, 90, 14},
		{[]int32{0}, 0, 14},
		{[]int32{90, 91}, 90, 91},
		{[]int32{-1, math.MinInt32}, -1, math.MinInt32},
		{[]int32{90, 91, 92}, 90, 91},
		{[]int32{90, 91, 92, 93, 94, 95, 96}, 90, 91},
	} {
		for _, seed := range []uint64{0, 1, 9, 1 << 32, math.MaxUint64} {
			want := State{Dice: dice.Dice{State: seed}}
			want.Board = made(t, g.Cells[0], g.Cells[1], board.Cell{Value: c.two}, g.Cells[3], board.Cell{Value: c.four})
			mustBe(t, c, started(t, g, seed, c.hidden...), want)
		}
	}
}

// TestStartOfAllSizes hides every third cell.
func TestStartOfAllSizes(t *testing.T) {
	for size := range 49 {
		g := plain(2, 2)
		for i := range size {
			g.Cells = append(g.Cells, board.Cell{Value: int32(i), Seen: mask.Mask((i + 2) % 3)})
		}
		for many := range 20 {
			hidden := make([]int32, many)
			for i := range hidden {
				hidden[i] = int32(500 + i)
			}
			var want []board.Cell
			for i, c := range g.Cells {
				if place := i / 3; i%3 == 1 && place < many {
					c.Value = int32(500 + place)
				}
				want = append(want, c)
			}
			mustBe(t, []int{size, many}, started(t, g, 3, hidden...), State{Board: made(t, want...), Dice: dice.Dice{State: 3}})
		}
	}
}

func TestStartOfWhatIsNotRight(t *testing.T) {
	for name, g := range wrong() {
		if s, e := g.Start(9, []int32{42}); e != api.ErrForm || s != (State{}) {
			t.Errorf("%s: %v, %v", name, s, e)
		}
	}
}

// P10.1: Step

// told is what the document says of a step.
func told(g Game, s State, moves []uint32) (State, Outcome) {
	if !may(g) {
		return s, Outcome{Err: api.ErrForm}
	}
	var counted []int32
	for player := range g.Players {
		move := int64(g.Default)
		if player < len(moves) && int64(moves[player]) < int64(g.Moves) {
			move = int64(moves[player])
		}
		if move >= 1<<31 {
			move -= 1 << 32
		}
		counted = append(counted, int32(move))
	}
	tick := uint32((uint64(s.Tick) + 1) % (1 << 32))
	r := vm.Run(g.Code, s.Board, s.Dice, counted, tick, mask.Mask(uint64(1)<<g.Observers-1))
	return State{Board: r.Board, Dice: r.Dice, Tick: tick}, Outcome{Touched: r.Touched, Shows: r.Shows, Err: r.Err}
}

// TestWithoutCode is the chapter's example.
func TestWithoutCode(t *testing.T) {
	g := small()
	g.Code = nil
	s := started(t, g, 77, 1, 2)
	for tick := range uint32(10) {
		next, came := g.Step(s, []uint32{3, 2})
		want := s
		want.Tick = tick + 1
		mustBe(t, tick, next, want)
		mustCome(t, tick, came, Outcome{})
		s = next
	}
}

// TestWhichMoves looks at what the moves of the two players are to the code.
func TestWhichMoves(t *testing.T) {
	g := small()
	for _, c := range []struct {
		moves []uint32
		a, b  int32
	}{
		{nil, 1, 1},
		{[]uint32{}, 1, 1},
		{[]uint32{0}, 0, 1},
		{[]uint32{3}, 3, 1},
		{[]uint32{4}, 1, 1},
		{[]uint32{0, 3}, 0, 3},
		{[]uint32{2, 0}, 2, 0},
		{[]uint32{4, 3}, 1, 3},
		{[]uint32{3, 4}, 3, 1},
		{[]uint32{math.MaxUint32, 1 << 31}, 1, 1},
		{[]uint32{0, 0, 9}, 0, 0},
		{[]uint32{2, 3, 0, 0, 0, 0, 0, 0}, 2, 3},
		{[]uint32{4, 4, 3, 3}, 1, 1},
	} {
		s := started(t, g, 5)
		next, came := g.Step(s, c.moves)
		want := with(t, with(t, s, 0, board.Cell{Value: c.a, Seen: 1}), 1, board.Cell{Value: c.b, Seen: 2})
		want.Tick = 1
		mustBe(t, c, next, want)
		mustCome(t, c, came, Outcome{Touched: 3})
	}
}

// TestGreatMoves: the code reckons with them as with numbers that have a sign.
func TestGreatMoves(t *testing.T) {
	for _, c := range []struct {
		move, fall uint32
		want       int32
	}{
		{1<<31 - 1, 0, math.MaxInt32},
		{1 << 31, 0, math.MinInt32},
		{1<<31 + 1, 0, math.MinInt32 + 1},
		{math.MaxUint32 - 1, 0, -2},
		{math.MaxUint32, 7, 7},
		{math.MaxUint32, 1 << 31, math.MinInt32},
		{math.MaxUint32, math.MaxUint32 - 1, -2},
	} {
		g := Game{Observers: 1, Players: 1, Moves: math.MaxUint32, Default: c.fall, Cells: make([]board.Cell, 1), Code: []code.Code{{Op: code.Move}, {Op: code.Store}}}
		next, came := g.Step(started(t, g, 5), []uint32{c.move})
		mustBe(t, c, next, State{Board: made(t, board.Cell{Value: c.want, Seen: 1}), Dice: dice.Dice{State: 5}, Tick: 1})
		mustCome(t, c, came, Outcome{Touched: 1})
	}
}

// TestTheTick: the code is told the tick behind the step, and so does the state; it goes round.
func TestTheTick(t *testing.T) {
	g := plain(2, 1)
	g.Cells, g.Code = make([]board.Cell, 1), []code.Code{{Op: code.Clock}, {Op: code.Store}}
	for _, tick := range words() {
		s := started(t, g, 5)
		s.Tick = tick
		next, came := g.Step(s, nil)
		mustBe(t, tick, next, State{Board: made(t, board.Cell{Value: int32(tick + 1), Seen: 3}), Dice: dice.Dice{State: 5}, Tick: tick + 1})
		mustCome(t, tick, came, Outcome{Touched: 1})
	}
}

// TestTheDiceGoOn rolls once a step.
func TestTheDiceGoOn(t *testing.T) {
	g := plain(2, 1)
	g.Cells, g.Code = make([]board.Cell, 1), []code.Code{{Op: code.Roll, N: 1000}, {Op: code.Store}}
	s, d := started(t, g, 0), dice.Dice{}
	for tick := uint32(1); tick < 20; tick++ {
		var value uint32
		value, d = d.Below(1000)
		s, _ = g.Step(s, nil)
		mustBe(t, tick, s, State{Board: made(t, board.Cell{Value: int32(value)}), Dice: d, Tick: tick})
	}
}

// TestAllOfThem: what the code makes of nothing hidden all observers may see, and no more.
func TestAllOfThem(t *testing.T) {
	for many := 1; many <= 32; many++ {
		g := plain(many, 1)
		g.Cells, g.Code = make([]board.Cell, 1), []code.Code{{Op: code.Set, N: 4}, {Op: code.Store}}
		next, _ := g.Step(started(t, g, 0), nil)
		mustBe(t, many, next, State{Board: made(t, board.Cell{Value: 4, Seen: mask.Mask(uint64(1)<<many - 1)}), Tick: 1})
	}
}

// TestStepsThatFail: all but the tick, and what was shown till then, is as it was.
func TestStepsThatFail(t *testing.T) {
	for name, c := range map[string]struct {
		behind []code.Code
		want   api.Errno
	}{
		"a branch by what not all see": {[]code.Code{{Op: code.Branch, A: 2, N: 1}}, api.ErrTaint},
		"a cell by what not all see":   {[]code.Code{{Op: code.LoadAt, A: 1, B: 2}}, api.ErrTaint},
		"a cell that isn't there":      {[]code.Code{{Op: code.Set, A: 2, N: 5}, {Op: code.StoreAt, B: 2}}, api.ErrIndex},
		"no fuel":                      {[]code.Code{{Op: code.Jump, N: 5}}, api.ErrFuel},
	} {
		g := small()
		g.Code = append([]code.Code{
			{Op: code.Reveal, N: 2, Mask: 5},
			{Op: code.Roll, A: 2, N: 6},
			{Op: code.Store, A: 2, N: 3},
			{Op: code.Shuffle, N: 0, C: 5},
			{Op: code.Reveal, N: 0, Mask: 2},
		}, c.behind...)
		s := started(t, g, 13, 42, 43)
		s.Tick = 8
		next, came := g.Step(s, []uint32{1, 2})
		want := s
		want.Tick = 9
		mustBe(t, name, next, want)
		if len(came.Shows) != 2 || came.Shows[0] != (vm.Show{Cell: 2, To: 5, Value: 42}) || came.Shows[1].Cell != 0 || came.Shows[1].To != 2 {
			t.Errorf("%s: the Shows are %v", name, came.Shows)
		}
		mustCome(t, name, came, Outcome{Shows: came.Shows, Err: c.want})
	}
}

// TestStepOfAnotherBoard: the game is Right, but its code asks for cells that aren't there. That comes of the step, so the tick goes on.
func TestStepOfAnotherBoard(t *testing.T) {
	g := small()
	for size := range 49 {
		s := State{Board: made(t, make([]board.Cell, size)...), Dice: dice.Dice{State: 3}, Tick: 6}
		next, came := g.Step(s, []uint32{2, 3})
		want, outcome := s, Outcome{Err: api.ErrForm}
		if size >= 2 {
			want, outcome = with(t, with(t, s, 0, board.Cell{Value: 2, Seen: 1}), 1, board.Cell{Value: 3, Seen: 2}), Outcome{Touched: 3}
		}
		want.Tick = 7
		mustBe(t, size, next, want)
		mustCome(t, size, came, outcome)
	}
}

func TestStepOfWhatIsNotRight(t *testing.T) {
	s := started(t, small(), 9, 42)
	s.Tick = 5
	for name, g := range wrong() {
		for _, moves := range [][]uint32{nil, {1, 2}, {0, 0, 0, 0, 0, 0, 0}} {
			next, came := g.Step(s, moves)
			mustBe(t, name, next, s)
			mustCome(t, name, came, Outcome{Err: api.ErrForm})
		}
	}
}

// instruction answers one that may be; of registers 5 to 7 are mostly such as all see, so that games go far.
func instruction(rolls *rand.Rand, size, cells, players int) code.Code {
	secret, public := byte(rolls.Intn(5)), byte(5+rolls.Intn(3))
	if rolls.Intn(30) == 0 {
		secret, public = public, secret
	}
	cell := int32(rolls.Intn(cells))
	return []code.Code{
		{Op: code.Set, A: public, N: int32(rolls.Intn(5)) - 1},
		{Op: code.Clock, A: public},
		{Op: code.Load, A: secret, N: cell},
		{Op: code.Store, A: secret, N: cell},
		{Op: code.Store, A: public, N: cell},
		{Op: code.StoreAt, A: secret, B: public, N: cell / 2},
		{Op: byte(code.Add + rolls.Intn(12)), A: secret, B: byte(rolls.Intn(8)), C: byte(rolls.Intn(8))},
		{Op: code.Branch, A: public, N: int32(rolls.Intn(size + 1))},
		{Op: code.Move, A: secret, N: int32(rolls.Intn(players))},
		{Op: code.Reveal, B: public, N: cell / 2, Mask: mask.Mask(rolls.Intn(128))},
		{Op: code.Roll, A: secret, N: 1 + int32(rolls.Intn(6))},
		{Op: code.Shuffle, N: cell, C: byte(1 + rolls.Intn(cells-int(cell)))},
	}[rolls.Intn(12)]
}

// mixed answers a game of all sorts. It may be.
func mixed(rolls *rand.Rand) Game {
	g := Game{Players: 1 + rolls.Intn(6), Moves: uint32(1 + rolls.Intn(5))}
	g.Observers = g.Players + rolls.Intn(3)
	if rolls.Intn(20) == 0 {
		g.Observers = 32
	}
	if rolls.Intn(10) == 0 {
		g.Moves = math.MaxUint32 - uint32(rolls.Intn(3))
	}
	g.Default = g.Moves - 1 - uint32(rolls.Intn(int(min(g.Moves, 3))))
	for range 1 + rolls.Intn(10) {
		seen := mask.Mask(rolls.Uint32()) & g.All()
		switch rolls.Intn(4) {
		case 0:
			seen = 0
		case 1:
			seen = g.All()
		}
		g.Cells = append(g.Cells, board.Cell{Value: int32(rolls.Intn(7)) - 2, Seen: seen})
	}
	size := rolls.Intn(20)
	for range size {
		g.Code = append(g.Code, instruction(rolls, size, len(g.Cells), g.Players))
	}
	return g
}

// moved answers moves of some players, some of them such as there aren't.
func moved(rolls *rand.Rand, g Game) []uint32 {
	moves := make([]uint32, rolls.Intn(9))
	for i := range moves {
		moves[i] = uint32(rolls.Intn(7))
		if rolls.Intn(8) == 0 {
			moves[i] = rolls.Uint32()
		}
	}
	return moves
}

// TestMixedSteps plays games of all sorts.
func TestMixedSteps(t *testing.T) {
	rolls := rand.New(rand.NewSource(7))
	came := map[api.Errno]int{}
	for range 8000 {
		g := mixed(rolls)
		if !g.Right() {
			t.Fatalf("%v isn't Right", g)
		}
		s := started(t, g, rolls.Uint64(), 5, 6)
		for range 4 {
			moves := moved(rolls, g)
			next, outcome := g.Step(s, moves)
			want, wanted := told(g, s, moves)
			mustBe(t, g, next, want)
			mustCome(t, g, outcome, wanted)
			came[outcome.Err]++
			s = next
		}
		if t.Failed() {
			return
		}
	}
	for _, e := range []api.Errno{api.OK, api.ErrTaint, api.ErrIndex, api.ErrFuel} {
		if came[e] < 500 {
			t.Errorf("of %d steps came %v: too few tell nothing", came[e], e)
		}
	}
}

// P10.2: View

func TestView(t *testing.T) {
	cells := small().Cells
	for _, o := range observers() {
		for _, tick := range words() {
			for _, seed := range []uint64{0, 1, math.MaxUint64} {
				sees := slices.Clone(cells)
				for i, c := range sees {
					if o < 0 || o > 31 || uint32(c.Seen)>>o%2 == 0 {
						sees[i].Value = 0
					}
				}
				s := State{Board: made(t, cells...), Dice: dice.Dice{State: seed}, Tick: tick}
				view := s.View(o)
				mustBe(t, o, view, State{Board: made(t, sees...), Tick: tick})
				mustBe(t, o, view.View(o), view)
			}
		}
	}
}

func TestViewByHand(t *testing.T) {
	s := State{Board: made(t, board.Cell{Value: 7, Seen: 1}, board.Cell{Value: 8, Seen: 3}, board.Cell{Value: 9}), Dice: dice.Dice{State: 5}, Tick: 6}
	mustBe(t, 0, s.View(0), State{Board: made(t, board.Cell{Value: 7, Seen: 1}, board.Cell{Value: 8, Seen: 3}, board.Cell{}), Tick: 6})
	mustBe(t, 1, s.View(1), State{Board: made(t, board.Cell{Seen: 1}, board.Cell{Value: 8, Seen: 3}, board.Cell{}), Tick: 6})
	mustBe(t, 2, s.View(2), State{Board: made(t, board.Cell{Seen: 1}, board.Cell{Seen: 3}, board.Cell{}), Tick: 6})
	mustBe(t, "none", State{}.View(0), State{})
}

// P10.2: Predict

// foretold is what the document says of a prediction.
func foretold(g Game, view State, o int, move uint32) State {
	moves := []uint32{}
	for player := range max(0, min(g.Players, 6)) {
		if player == o {
			moves = append(moves, move)
		} else {
			moves = append(moves, g.Default)
		}
	}
	next, _ := told(g, view, moves)
	return State{Board: next.Board.View(o), Tick: next.Tick}
}

// TestPredictByHand: each knows its own move alone; of the others' it is told nothing, as it couldn't see them.
func TestPredictByHand(t *testing.T) {
	g := small()
	s := started(t, g, 9, 42, 43)
	s.Tick = 4
	for _, c := range []struct {
		o    int
		move uint32
		a, b int32
	}{
		{0, 3, 3, 0},
		{0, 0, 0, 0},
		{0, 4, 1, 0}, // it isn't Legal
		{1, 3, 0, 3},
		{1, math.MaxUint32, 0, 1},
		{2, 3, 0, 0}, // no player
		{3, 3, 0, 0}, // nobody
		{-1, 3, 0, 0},
		{math.MaxInt, 3, 0, 0},
		{math.MinInt, 3, 0, 0},
	} {
		want := with(t, with(t, s.View(c.o), 0, board.Cell{Value: c.a, Seen: 1}), 1, board.Cell{Value: c.b, Seen: 2})
		want.Tick = 5
		mustBe(t, c, g.Predict(s.View(c.o), c.o, c.move), want)
	}
}

// TestPredictShowsTheDefaults: the moves of all are revealed, so one sees what one takes those of the others for.
func TestPredictShowsTheDefaults(t *testing.T) {
	for players := 1; players <= 6; players++ {
		g := plain(players+1, players)
		g.Moves, g.Default, g.Cells = 9, 4, make([]board.Cell, players)
		for p := range int32(players) {
			g.Code = append(g.Code, code.Code{Op: code.Move, N: p}, code.Code{Op: code.Store, N: p}, code.Code{Op: code.Reveal, A: 0, N: p, B: 7, Mask: math.MaxUint32})
		}
		for _, o := range observers() {
			for move := range uint32(12) {
				cells := make([]board.Cell, players)
				for p := range cells {
					cells[p] = board.Cell{Value: 4, Seen: g.All()}
					if p == o && move < 9 {
						cells[p].Value = int32(move)
					}
				}
				want := State{Board: made(t, cells...).View(o), Tick: 1}
				mustBe(t, []any{players, o, move}, g.Predict(started(t, g, 3), o, move), want)
			}
		}
	}
}

// TestPredictOfAState: of one that is no view, too, it answers no more than o sees then; its dice are rolled, as Step rolls them.
func TestPredictOfAState(t *testing.T) {
	g := plain(2, 1)
	g.Cells = []board.Cell{{Value: 5}, {Value: 6, Seen: 2}}
	g.Code = []code.Code{{Op: code.Roll, N: 1000}, {Op: code.Store}, {Op: code.Reveal, B: 1, Mask: 1}}
	for _, seed := range []uint64{0, 1, 2, 99} {
		value, _ := dice.Dice{State: seed}.Below(1000)
		s := State{Board: made(t, g.Cells...), Dice: dice.Dice{State: seed}, Tick: math.MaxUint32}
		mustBe(t, seed, g.Predict(s, 0, 0), State{Board: made(t, board.Cell{Value: int32(value), Seen: 1}, board.Cell{Seen: 2})})
		mustBe(t, seed, g.Predict(s, 1, 0), State{Board: made(t, board.Cell{Seen: 1}, board.Cell{Value: 6, Seen: 2})})
	}
}

// TestPredictOfStepsThatFail: the tick goes on, and it is a view still.
func TestPredictOfStepsThatFail(t *testing.T) {
	g := small()
	g.Code = []code.Code{{Op: code.Store, N: 3}, {Op: code.Jump, N: 1}}
	s := started(t, g, 9, 42, 43)
	for _, o := range observers() {
		want := s.View(o)
		want.Tick = 1
		mustBe(t, o, g.Predict(s, o, 2), want)
		mustBe(t, o, g.Predict(s.View(o), o, 2), want)
	}
}

// TestPredictOfWhatIsNotRight: Step leaves the state, and View is asked of it.
func TestPredictOfWhatIsNotRight(t *testing.T) {
	s := started(t, small(), 9, 42, 43)
	s.Tick = 5
	for name, g := range wrong() {
		for _, o := range observers() {
			mustBe(t, name, g.Predict(s, o, 2), s.View(o))
		}
	}
}

// TestMixedPredictions asks of games of all sorts, of views and of states.
func TestMixedPredictions(t *testing.T) {
	rolls := rand.New(rand.NewSource(8))
	for range 8000 {
		g := mixed(rolls)
		s := started(t, g, rolls.Uint64(), 5, 6)
		s.Tick = rolls.Uint32()
		for range 6 {
			o, move := rolls.Intn(9)-1, uint32(rolls.Intn(7))
			for _, from := range []State{s, s.View(o)} {
				got := g.Predict(from, o, move)
				mustBe(t, g, got, foretold(g, from, o, move))
				mustBe(t, "a view", got, got.View(o))
			}
		}
		if t.Failed() {
			return
		}
	}
}

// TestAPlayerAloneIsRight: where nothing is hidden, and the others take the default, what comes is what was predicted.
func TestAPlayerAloneIsRight(t *testing.T) {
	g := small()
	s := started(t, g, 1)
	for o := range 2 {
		for move := range uint32(4) {
			moves := []uint32{g.Default, g.Default}
			moves[o] = move
			next, _ := g.Step(s, moves)
			mustBe(t, o, g.Predict(s.View(o), o, move), next.View(o))
		}
	}
}

// P10.3: Bytes

// written is what the document says of a game's bytes.
func written(g Game) []byte {
	p := []byte{byte(g.Observers), byte(g.Players)}
	p = binary.LittleEndian.AppendUint32(p, g.Moves)
	p = binary.LittleEndian.AppendUint32(p, g.Default)
	p = append(p, byte(len(g.Cells)))
	for _, c := range g.Cells {
		p = binary.LittleEndian.AppendUint32(p, uint32(c.Value))
		p = binary.LittleEndian.AppendUint32(p, uint32(c.Seen))
	}
	l := code.Bytes(g.Code)
	p = binary.AppendUvarint(p, uint64(len(l)))
	return append(p, l...)
}

// edges are games with as little, and as much, as may be.
func edges() []Game {
	least, most := plain(1, 1), plain(32, 6)
	most.Moves, most.Default = math.MaxUint32, math.MaxUint32-1
	for i := range 48 {
		most.Cells = append(most.Cells, board.Cell{Value: int32(i*i*i*i*1000) * -1, Seen: mask.Mask(math.MaxUint32 - uint32(i))})
	}
	for i := range int32(96) {
		most.Code = append(most.Code, code.Code{Op: code.Reveal, B: byte(i % 8), N: i % 48, Mask: mask.Mask(math.MaxUint32 - uint32(i))})
	}
	all := []Game{least, most, small()}
	for n := range 97 {
		g := least
		g.Code = make([]code.Code, n)
		all = append(all, g)
		if n < 49 {
			g.Cells = make([]board.Cell, n)
			all = append(all, g)
		}
	}
	return all
}

func TestBytesByHand(t *testing.T) {
	for _, c := range []struct {
		g    Game
		want string
	}{
		{plain(1, 1), "01" + "01" + "01000000" + "00000000" + "00" + "01" + "00"},
		{
			Game{
				Observers: 32, Players: 6, Moves: 0x04030201, Default: 0x04030200,
				Cells: []board.Cell{{Value: 0x08070605, Seen: 0x0c0b0a09}, {Value: -2, Seen: 0x80000000}},
				Code:  []code.Code{{Op: code.Reveal, B: 7, N: 1, Mask: 0x100f0e0d}},
			},
			"20" + "06" + "01020304" + "00020304" + "02" + "05060708" + "090a0b0c" + "feffffff" + "00000080" +
				"0d" + "01" + "16000700" + "01000000" + "0d0e0f10",
		},
	} {
		if got := hex.EncodeToString(c.g.Bytes()); got != c.want {
			t.Errorf("%v: %s, not %s", c.g, got, c.want)
		}
	}
}

// TestBytesAndBack: what Parse reads is the game that was written, and may be.
func TestBytesAndBack(t *testing.T) {
	rolls := rand.New(rand.NewSource(9))
	all := edges()
	for range 3000 {
		all = append(all, mixed(rolls))
	}
	for _, g := range all {
		p := g.Bytes()
		if !bytes.Equal(p, written(g)) {
			t.Fatalf("%v: %x, not %x", g, p, written(g))
		}
		back, e := Parse(p)
		if e != api.OK || !Same(back, g) || !alike(back, g) || !back.Right() {
			t.Fatalf("%v: back %v, %v", g, back, e)
		}
	}
}

func TestBytesOfWhatIsNotRight(t *testing.T) {
	for name, g := range wrong() {
		if p := g.Bytes(); len(p) != 0 {
			t.Errorf("%s: %x", name, p)
		}
	}
}

// mustNotParse holds Parse to ErrForm, and no game beside it.
func mustNotParse(t *testing.T, what any, p []byte) {
	t.Helper()
	if g, e := Parse(p); e != api.ErrForm || !alike(g, Game{}) {
		t.Errorf("%v: %v, %v", what, g, e)
	}
}

// TestParseOfWhatIsNotRight writes games that may not be as if they might.
func TestParseOfWhatIsNotRight(t *testing.T) {
	for name, g := range wrong() {
		mustNotParse(t, name, written(g))
	}
	mustNotParse(t, "nothing", nil)
	mustNotParse(t, "nothing", []byte{})
}

func TestParseOfTooLittleAndTooMuch(t *testing.T) {
	for _, g := range edges()[:3] {
		p := g.Bytes()
		for n := range p {
			mustNotParse(t, n, p[:n])
		}
		for b := range 256 {
			mustNotParse(t, b, append(slices.Clone(p), byte(b)))
		}
		mustNotParse(t, "twice", append(slices.Clone(p), p...))
	}
}

// TestParseOfOtherWritings: numbers that aren't as short as may be, and blobs that don't end where the code does.
func TestParseOfOtherWritings(t *testing.T) {
	ahead := "0101" + "01000000" + "00000000" + "00"
	for name, behind := range map[string]string{
		"a long size":            "8100" + "00",
		"a long count":           "02" + "8000",
		"no count":               "00",
		"an empty blob, more":    "00" + "00",
		"a byte in the blob":     "02" + "00" + "00",
		"a byte behind it":       "01" + "00" + "00",
		"a size above what's on": "02" + "00",
		"a great size":           "ffffffffffffffffff01" + "00",
		"too great a size":       "ffffffffffffffffff02" + "00",
		"an endless size":        "ffffffffffffffffffffffff",
		"half an instruction":    "07" + "01" + "000000000000",
		"one of two":             "0d" + "02" + "000000000000000000000000",
		"two instead of one":     "19" + "01" + "000000000000000000000000" + "000000000000000000000000",
		"no code":                "",
	} {
		p, e := hex.DecodeString(ahead + behind)
		if e != nil {
			t.Fatal(name, e)
		}
		mustNotParse(t, name, p)
	}
}

// TestParseIsTheOnlyWayBack spoils bytes: what still is a game is one with just these bytes.
func TestParseIsTheOnlyWayBack(t *testing.T) {
	rolls := rand.New(rand.NewSource(10))
	games := 0
	for range 60000 {
		p := mixed(rolls).Bytes()
		for range 1 + rolls.Intn(2) {
			p[rolls.Intn(len(p))] ^= 1 << rolls.Intn(8)
		}
		g, e := Parse(p)
		if e != api.OK {
			mustNotParse(t, p, p)
			continue
		}
		games++
		if !may(g) || !bytes.Equal(written(g), p) || !bytes.Equal(g.Bytes(), p) {
			t.Fatalf("%x: %v", p, g)
		}
	}
	if games < 5000 || games > 55000 {
		t.Errorf("%d are games: too few of either sort tell nothing", games)
	}
}

// TestParseOfEachByte puts every byte in every place, and asks what the document says of such bytes.
func TestParseOfEachByte(t *testing.T) {
	g := small()
	g.Code = g.Code[2:]
	p := g.Bytes()
	for i := range p {
		for b := range 256 {
			q := slices.Clone(p)
			q[i] = byte(b)
			got, e := Parse(q)
			if e == api.OK && (!may(got) || !bytes.Equal(written(got), q)) {
				t.Errorf("%x: %v", q, got)
			}
			if e != api.OK {
				mustNotParse(t, q, q)
			}
			want := g
			switch i { // the first bytes stand alone for what they are
			case 0:
				want.Observers = b
			case 1:
				want.Players = b
			case 2:
				want.Moves = uint32(b)
			case 6:
				want.Default = uint32(b)
			default:
				continue
			}
			if (e == api.OK) != may(want) || e == api.OK && !alike(got, want) {
				t.Errorf("the byte %d is %d: %v, %v", i, b, got, e)
			}
		}
	}
}

// P10.3: Same

// alike is what the document says of two games.
func alike(a, b Game) bool {
	if len(a.Cells) != len(b.Cells) || len(a.Code) != len(b.Code) {
		return false
	}
	for i := range a.Cells {
		if a.Cells[i] != b.Cells[i] {
			return false
		}
	}
	for i := range a.Code {
		if a.Code[i] != b.Code[i] {
			return false
		}
	}
	return a.Observers == b.Observers && a.Players == b.Players && a.Moves == b.Moves && a.Default == b.Default
}

// copied answers a game that shares nothing with g.
func copied(g Game) Game {
	g.Cells, g.Code = slices.Clone(g.Cells), slices.Clone(g.Code)
	return g
}

// TestSame changes one thing at a time.
func TestSame(t *testing.T) {
	for _, g := range append(edges()[:3], wrong()["a label of another"], Game{}) {
		if !Same(g, g) || !Same(g, copied(g)) {
			t.Errorf("%v isn't the same as itself", g)
		}
		changes := map[string]func(*Game){
			"observers": func(g *Game) { g.Observers++ },
			"players":   func(g *Game) { g.Players-- },
			"moves":     func(g *Game) { g.Moves++ },
			"default":   func(g *Game) { g.Default ^= 1 << 31 },
			"one cell more": func(g *Game) {
				g.Cells = append(g.Cells, board.Cell{})
			},
			"one instruction more": func(g *Game) {
				g.Code = append(g.Code, code.Code{})
			},
		}
		if len(g.Cells) > 0 {
			last := len(g.Cells) - 1
			changes["one cell less"] = func(g *Game) { g.Cells = g.Cells[:last] }
			changes["no cells"] = func(g *Game) { g.Cells = nil }
			changes["the first value"] = func(g *Game) { g.Cells[0].Value++ }
			changes["the last value"] = func(g *Game) { g.Cells[last].Value++ }
			changes["the first label"] = func(g *Game) { g.Cells[0].Seen ^= 1 }
			changes["the last label"] = func(g *Game) { g.Cells[last].Seen ^= 1 << 31 }
			changes["cells in other places"] = func(g *Game) { g.Cells[0], g.Cells[last] = g.Cells[last], g.Cells[0] }
		}
		if len(g.Code) > 0 {
			last := len(g.Code) - 1
			changes["one instruction less"] = func(g *Game) { g.Code = g.Code[:last] }
			changes["no code"] = func(g *Game) { g.Code = nil }
			changes["an operation"] = func(g *Game) { g.Code[0].Op ^= 1 }
			changes["an A"] = func(g *Game) { g.Code[0].A ^= 1 }
			changes["a B"] = func(g *Game) { g.Code[0].B ^= 1 }
			changes["a C"] = func(g *Game) { g.Code[0].C ^= 1 }
			changes["an N"] = func(g *Game) { g.Code[0].N ^= 1 }
			changes["a mask"] = func(g *Game) { g.Code[0].Mask ^= 1 }
			changes["the last instruction"] = func(g *Game) { g.Code[last].Op ^= 2 }
		}
		for name, f := range changes {
			h := copied(g)
			f(&h)
			if Same(g, h) || Same(h, g) {
				t.Errorf("%s: %v is the same", name, h)
			}
		}
	}
}

func TestSameOfEmptyLists(t *testing.T) {
	a, b := plain(2, 1), plain(2, 1)
	a.Cells, a.Code = []board.Cell{}, []code.Code{}
	if !Same(a, b) || !Same(b, a) {
		t.Error("nil and empty lists aren't the same")
	}
}

func TestMixedAreNotTheSame(t *testing.T) {
	rolls := rand.New(rand.NewSource(11))
	for range 3000 {
		a, b := mixed(rolls), mixed(rolls)
		if Same(a, b) != alike(a, b) || Same(a, b) != bytes.Equal(a.Bytes(), b.Bytes()) {
			t.Fatalf("%v, %v: %v", a, b, Same(a, b))
		}
	}
}

// P3, P4: what a step tells

// TestNothingIsTold steps two states that one observer sees alike, with other hidden values, dice, and moves of others.
func TestNothingIsTold(t *testing.T) {
	rolls := rand.New(rand.NewSource(12))
	steps := 0
	for range 20000 {
		g := mixed(rolls)
		o := rolls.Intn(g.Observers)
		a := started(t, g, rolls.Uint64())
		cells := a.Board.Cells()
		for i, c := range cells {
			if !c.Seen.Has(o) {
				cells[i].Value = int32(rolls.Intn(7)) - 2
			}
		}
		b := State{Board: made(t, cells...), Dice: dice.Dice{State: rolls.Uint64()}}
		for range 3 {
			moves := make([]uint32, 6)
			for i := range moves {
				moves[i] = uint32(rolls.Intn(7))
			}
			others := slices.Clone(moves)
			for i := range others {
				if i != o {
					others[i] = uint32(rolls.Intn(7))
				}
			}
			var x, y Outcome
			a, x = g.Step(a, moves)
			b, y = g.Step(b, others)
			if parted(x.Shows, y.Shows, o) {
				break
			}
			steps++
			if a.View(o) != b.View(o) || x.Touched != y.Touched || x.Err != y.Err || len(x.Shows) != len(y.Shows) {
				t.Fatalf("%v for %d: %v, %v", g, o, x, y)
			}
		}
	}
	if steps < 20000 {
		t.Errorf("%d steps: too few tell nothing", steps)
	}
}

// parted tells whether o was shown values that aren't the same.
func parted(a, b []vm.Show, o int) bool {
	for i := range min(len(a), len(b)) {
		if a[i].To.Has(o) && a[i].Value != b[i].Value {
			return true
		}
	}
	return false
}

// P1, P2, and memory

// TestAllArguments: none of the calls panics, whatever the game is.
func TestAllArguments(t *testing.T) {
	games := append(edges(), Game{Observers: math.MinInt, Players: math.MinInt, Default: 5})
	for _, g := range wrong() {
		games = append(games, g)
	}
	full := State{Board: made(t, make([]board.Cell, 48)...), Dice: dice.Dice{State: 1}, Tick: math.MaxUint32}
	for _, g := range games {
		for _, s := range []State{{}, full} {
			for _, o := range observers() {
				g.Predict(s, o, 0)
				g.Predict(s, o, math.MaxUint32)
				s.View(o)
			}
			for _, moves := range [][]uint32{nil, {}, make([]uint32, 1000)} {
				g.Step(s, moves)
			}
		}
		g.Start(math.MaxUint64, nil)
		g.Start(0, make([]int32, 1000))
		g.Right()
		g.All()
		g.Legal(0)
		Same(g, Game{})
		Parse(g.Bytes())
	}
}

// TestWhatIsHandedInStays, spare room too, and nothing is kept of it.
func TestWhatIsHandedInStays(t *testing.T) {
	g := small()
	cells := append(make([]board.Cell, 0, 40), g.Cells...)
	l := append(make([]code.Code, 0, 40), g.Code...)
	hidden := append(make([]int32, 0, 10), 42, 43, 44)
	moves := append(make([]uint32, 0, 10), 3, 9, 2)
	g.Cells, g.Code = cells, l
	all := func() ([]board.Cell, []code.Code, []int32, []uint32) {
		return slices.Clone(cells[:40]), slices.Clone(l[:40]), slices.Clone(hidden[:10]), slices.Clone(moves[:10])
	}
	wantCells, wantCode, wantHidden, wantMoves := all()
	s, _ := g.Start(9, hidden)
	next, _ := g.Step(s, moves)
	view := g.Predict(next, 1, 2)
	p := g.Bytes()
	parsed, _ := Parse(p)
	gotCells, gotCode, gotHidden, gotMoves := all()
	if !slices.Equal(gotCells, wantCells) || !slices.Equal(gotCode, wantCode) || !slices.Equal(gotHidden, wantHidden) || !slices.Equal(gotMoves, wantMoves) {
		t.Fatal("what was handed in isn't what it was")
	}
	for i := range p {
		p[i] = 0xff
	}
	clear(cells)
	clear(l)
	clear(hidden)
	clear(moves)
	if fresh := started(t, small(), 9, 42, 43); s != fresh {
		mustBe(t, "behind the call", s, fresh)
	}
	if !alike(parsed, small()) {
		t.Errorf("what was parsed is %v", parsed)
	}
	want, _ := small().Step(s, []uint32{3, 9, 2})
	mustBe(t, "behind the call", next, want)
	mustBe(t, "behind the call", view, small().Predict(want, 1, 2))
}

// TestAnswersShareNoMemory writes over one answer, up to its spare room, and asks for another.
func TestAnswersShareNoMemory(t *testing.T) {
	g := small()
	g.Code = []code.Code{{Op: code.Reveal, N: 2, Mask: 7}, {Op: code.Reveal, N: 4, Mask: 1}}
	p := g.Bytes()
	first, kept := g.Bytes(), g.Bytes()
	clear(first[:cap(first)])
	if !bytes.Equal(kept, p) || !bytes.Equal(g.Bytes(), p) {
		t.Error("Bytes share memory")
	}
	a, _ := Parse(p)
	b, _ := Parse(p)
	clear(a.Cells[:cap(a.Cells)])
	clear(a.Code[:cap(a.Code)])
	if !alike(b, g) {
		t.Error("games that were parsed share memory")
	}
	s := started(t, g, 1, 42, 43)
	_, x := g.Step(s, nil)
	_, y := g.Step(s, nil)
	clear(x.Shows[:cap(x.Shows)])
	mustCome(t, "another step", y, Outcome{Touched: 20, Shows: []vm.Show{{Cell: 2, To: 7, Value: 42}, {Cell: 4, To: 1, Value: 43}}})
}

// TestTheSameAgain asks twice, with other calls between.
func TestTheSameAgain(t *testing.T) {
	rolls := rand.New(rand.NewSource(13))
	for range 500 {
		g, h := mixed(rolls), mixed(rolls)
		s := started(t, g, 3, 4, 5)
		moves := moved(rolls, g)
		a, x := g.Step(s, moves)
		h.Step(started(t, h, 4), moves)
		h.Bytes()
		b, y := g.Step(s, moves)
		mustBe(t, g, b, a)
		mustCome(t, g, y, x)
		mustBe(t, g, s, started(t, g, 3, 4, 5))
		mustBe(t, g, g.Predict(a, 1, 2), g.Predict(b, 1, 2))
	}
}
