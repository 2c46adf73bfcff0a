package trail

import (
	"math"
	"math/rand"
	"slices"
	"testing"

	"hoodwink/api"
	"hoodwink/board"
	"hoodwink/code"
	"hoodwink/dice"
	"hoodwink/mask"
	"hoodwink/rules"
)

const last = math.MaxUint32

// game answers one of so many observers and players, with ten moves, of which 7 is the default. Each player has a cell that it alone sees: each tick makes it thrice what it was, and the player's move, and the tick. So which move was when is to be seen there ever after. Behind these are a cell that all see, of the tick, one that nobody sees, which is rolled, and one for 0 alone.
func game(observers, players int) rules.Game {
	g := rules.Game{Observers: observers, Players: players, Moves: 10, Default: 7}
	g.Code = []code.Code{{Op: code.Set, A: 3, N: 3}, {Op: code.Clock, A: 4}}
	for p := range players {
		g.Cells = append(g.Cells, board.Cell{Value: 5, Seen: mask.Of(p)})
		g.Code = append(g.Code,
			code.Code{Op: code.Load, A: 1, N: int32(p)}, code.Code{Op: code.Mul, A: 1, B: 1, C: 3},
			code.Code{Op: code.Move, A: 2, N: int32(p)}, code.Code{Op: code.Add, A: 1, B: 1, C: 2},
			code.Code{Op: code.Add, A: 1, B: 1, C: 4}, code.Code{Op: code.Store, A: 1, N: int32(p)})
	}
	g.Cells = append(g.Cells, board.Cell{Value: -2, Seen: g.All()}, board.Cell{Value: 50}, board.Cell{Value: 60, Seen: 1})
	g.Code = append(g.Code,
		code.Code{Op: code.Store, A: 4, N: int32(players)},
		code.Code{Op: code.Roll, A: 5, N: 1000}, code.Code{Op: code.Store, A: 5, N: int32(players) + 1})
	return g
}

// wrong are games that aren't Right, each in one thing alone.
func wrong() []rules.Game {
	all := []rules.Game{{}}
	for _, change := range []func(g *rules.Game){
		func(g *rules.Game) { g.Observers = 1 },
		func(g *rules.Game) { g.Observers = 33 },
		func(g *rules.Game) { g.Observers, g.Players = math.MaxInt, math.MaxInt },
		func(g *rules.Game) { g.Observers, g.Players = math.MinInt, math.MinInt },
		func(g *rules.Game) { g.Players, g.Code = 0, nil },
		func(g *rules.Game) { g.Observers, g.Players = 9, 7 },
		func(g *rules.Game) { g.Moves = 7 },
		func(g *rules.Game) { g.Cells = make([]board.Cell, 49) },
		func(g *rules.Game) { g.Cells[3].Seen = 8 },
		func(g *rules.Game) { g.Code[2].N = 5 },
		func(g *rules.Game) { g.Code[4].N = 2 },
		func(g *rules.Game) { g.Code[1].Op = 26 },
	} {
		g := game(3, 2)
		change(&g)
		all = append(all, g)
	}
	return all
}

// observers are those of small games, and some that no game has.
func observers() []int {
	return []int{0, 1, 2, 3, 5, 6, 31, 32, 64, 256, 1 << 32, math.MaxInt, -1, -32, math.MinInt}
}

// started answers a state of g at a tick; of a game that isn't Right it is that of a board of its own.
func started(g rules.Game, tick uint32) rules.State {
	s, e := g.Start(9, []int32{77})
	if e != api.OK {
		s.Board, _ = board.New(board.Cell{Value: 1, Seen: 1}, board.Cell{Value: 2, Seen: 2}, board.Cell{Value: 3, Seen: 3})
	}
	s.Tick = tick
	return s
}

// viewed answers o's view of g at a tick.
func viewed(g rules.Game, o int, tick uint32) rules.State { return started(g, tick).View(o) }

// with answers a state with another cell at i.
func with(t *testing.T, s rules.State, i int, c board.Cell) rules.State {
	t.Helper()
	b, e := s.Board.Put(i, c)
	if e != api.OK {
		t.Fatalf("no cell %d", i)
	}
	s.Board = b
	return s
}

// value answers what stands in the cell at i.
func value(s rules.State, i int) int32 {
	c, _ := s.Board.At(i)
	return c.Value
}

// behind answers a trail of o's view of g at a tick.
func behind(g rules.Game, o int, tick uint32) *Trail {
	t := New(g, o)
	t.Reset(viewed(g, o, tick))
	return t
}

// mustState holds a state to that which it should be.
func mustState(t *testing.T, what any, got, want rules.State) {
	t.Helper()
	if got != want {
		t.Fatalf("%v: %v, dice %v, tick %d, not %v, dice %v, tick %d", what, got.Board.Cells(), got.Dice, got.Tick, want.Board.Cells(), want.Dice, want.Tick)
	}
}

// mustAdd holds an Add to its answer.
func mustAdd(t *testing.T, x *Trail, tick, move uint32, want api.Errno) {
	t.Helper()
	if got := x.Add(tick, move); got != want {
		t.Fatalf("Add(%d, %d) behind the tick %d: %v, not %v", tick, move, x.Known().Tick, got, want)
	}
}

// mustConfirm holds a Confirm to its answer.
func mustConfirm(t *testing.T, x *Trail, view rules.State, want api.Errno) {
	t.Helper()
	known := x.Known().Tick
	if got := x.Confirm(view); got != want {
		t.Fatalf("Confirm of the tick %d behind the tick %d: %v, not %v", view.Tick, known, got, want)
	}
}

// mustBe holds a trail to the state that it knows, how often it was wrong, and the ticks of its moves.
func mustBe(t *testing.T, what any, x *Trail, known rules.State, rolls int, pending ...uint32) {
	t.Helper()
	mustState(t, what, x.Known(), known)
	end := known.Tick
	if len(pending) > 0 {
		end = pending[len(pending)-1]
	}
	if got := x.Pending(); !slices.Equal(got, pending) || x.Last() != end || x.Room() != 16-len(pending) || len(x.moves) != len(pending) {
		t.Fatalf("%v: Pending %v, Last %d, Room %d, kept %v, not %v, %d, %d", what, got, x.Last(), x.Room(), x.moves, pending, end, 16-len(pending))
	}
	if x.Rolls() != rolls {
		t.Fatalf("%v: Rolls %d, not %d", what, x.Rolls(), rolls)
	}
}

// P16.1: New

func TestANewTrail(t *testing.T) {
	for _, g := range append(wrong(), game(3, 2), game(32, 6), game(1, 1)) {
		for _, o := range observers() {
			x := New(g, o)
			if x == nil {
				t.Fatalf("%v, %d: nil", g, o)
			}
			mustBe(t, "a new one", x, rules.State{}, 0)
			mustState(t, "a new one", x.Shown(0), rules.State{})
		}
	}
}

// TestANewTrailGoesOn: from the zero state, as from any other.
func TestANewTrailGoesOn(t *testing.T) {
	g := game(3, 2)
	x := New(g, 1)
	mustAdd(t, x, 0, 1, api.ErrLate)
	mustAdd(t, x, 17, 1, api.ErrFull)
	mustAdd(t, x, 16, 1, api.OK)
	mustAdd(t, x, 1, 1, api.OK)
	mustBe(t, "the zero state", x, rules.State{}, 0, 1, 16)
	mustState(t, "the code has no cells", x.Shown(3), rules.State{Tick: 3})
	mustConfirm(t, x, rules.State{}, api.ErrOld)
	mustConfirm(t, x, viewed(g, 1, 1), api.OK)
	mustBe(t, "a board came", x, viewed(g, 1, 1), 1, 16)
}

// P16.1: Reset

func TestReset(t *testing.T) {
	g := game(3, 2)
	x := behind(g, 0, 5)
	mustBe(t, "Reset", x, viewed(g, 0, 5), 0)
	for _, tick := range []uint32{5, 6, 3, 0, 40, last, 1 << 31, 5} {
		mustAdd(t, x, x.Known().Tick, 1, api.ErrLate)
		for more := range uint32(3) {
			x.Add(x.Known().Tick+1+more, 1) // there are none behind the last tick
		}
		view := with(t, viewed(g, 0, tick), 2, board.Cell{Value: int32(tick), Seen: 7})
		x.Reset(view)
		mustBe(t, tick, x, view, 0)
		mustState(t, tick, x.Shown(tick), view)
	}
	mustAdd(t, x, 6, 2, api.OK)
	mustAdd(t, x, 21, 2, api.OK)
	mustAdd(t, x, 22, 2, api.ErrFull)
	mustBe(t, "behind all of them", x, with(t, viewed(g, 0, 5), 2, board.Cell{Value: 5, Seen: 7}), 0, 6, 21)
}

// TestResetLeavesNoMove: what comes behind it is shown on the default alone.
func TestResetLeavesNoMove(t *testing.T) {
	g := game(3, 2)
	x := behind(g, 0, 5)
	for tick := uint32(6); tick <= 21; tick++ {
		mustAdd(t, x, tick, 1, api.OK)
	}
	x.Reset(viewed(g, 0, 5))
	for tick := uint32(0); tick < 30; tick++ {
		mustState(t, tick, x.Shown(tick), behind(g, 0, 5).Shown(tick))
	}
	for tick := uint32(6); tick <= 21; tick++ {
		mustAdd(t, x, tick, 1, api.OK)
	}
}

// TestResetIsNoRoll: it says nothing of how often one was wrong.
func TestResetIsNoRoll(t *testing.T) {
	g := game(3, 2)
	x := behind(g, 0, 5)
	x.Reset(viewed(g, 0, 6))
	mustBe(t, "another one", x, viewed(g, 0, 6), 0)
	mustConfirm(t, x, viewed(g, 0, 7), api.OK)
	mustBe(t, "it was wrong", x, viewed(g, 0, 7), 1)
	x.Reset(viewed(g, 0, 5))
	mustBe(t, "the rolls stay", x, viewed(g, 0, 5), 1)
	x.Reset(rules.State{})
	mustBe(t, "the rolls stay", x, rules.State{}, 1)
}

// TestWhatIsKnownIsWhatIsTold, though it be no view of the trail's observer.
func TestWhatIsKnownIsWhatIsTold(t *testing.T) {
	g := game(3, 2)
	s := started(g, 5)
	for _, o := range observers() {
		x := New(g, o)
		x.Reset(s)
		mustState(t, o, x.Known(), s)
		mustState(t, o, x.Shown(5), s)
		mustState(t, o, x.Shown(6), g.Predict(s, o, 7))
		s := s
		s.Tick = 6
		mustConfirm(t, x, s, api.OK)
		mustState(t, o, x.Known(), s)
		mustState(t, o, x.Shown(6), s)
	}
}

// P16.1: Confirm

// TestConfirm asks of moves for all ticks which are left behind a Confirm of each one.
func TestConfirm(t *testing.T) {
	g := game(3, 2)
	for tick := uint32(6); tick < 40; tick++ {
		for step := uint32(1); step < 5; step++ {
			x := behind(g, 1, 5)
			var left []uint32
			for at := uint32(6); at <= 21; at += step {
				mustAdd(t, x, at, at%10, api.OK)
				if at > tick {
					left = append(left, at)
				}
			}
			rolls := 0
			if tick <= 21 {
				rolls = 1
			}
			mustConfirm(t, x, viewed(g, 1, tick), api.OK)
			mustBe(t, tick, x, viewed(g, 1, tick), rolls, left...)
			want := behind(g, 1, tick)
			for _, at := range left {
				mustAdd(t, want, at, at%10, api.OK)
			}
			for at := uint32(0); at < 60; at++ {
				mustState(t, []uint32{tick, at}, x.Shown(at), want.Shown(at))
			}
		}
	}
}

// TestConfirmOfWhatIsOld changes nothing, whatever it tells.
func TestConfirmOfWhatIsOld(t *testing.T) {
	g := game(3, 2)
	for _, now := range []uint32{0, 1, 5, 20, 1<<31 - 1, 1 << 31, last - 1, last} {
		x := behind(g, 0, now)
		var pending []uint32
		if now < last {
			mustAdd(t, x, now+1, 1, api.OK)
			pending = append(pending, now+1)
		}
		for _, tick := range []uint32{0, 1, now / 2, now - min(now, 17), now - min(now, 16), now - min(now, 1), now} {
			if tick > now {
				continue
			}
			for _, view := range []rules.State{viewed(g, 0, tick), {Tick: tick}, with(t, viewed(g, 0, tick), 0, board.Cell{Value: 99, Seen: 1})} {
				mustConfirm(t, x, view, api.ErrOld)
				mustBe(t, tick, x, viewed(g, 0, now), 0, pending...)
			}
		}
	}
}

// TestATickMakesRoom: behind a Confirm ticks further on may have moves, and those up to its none.
func TestATickMakesRoom(t *testing.T) {
	g := game(3, 2)
	x := behind(g, 0, 5)
	mustAdd(t, x, 22, 1, api.ErrFull)
	mustConfirm(t, x, viewed(g, 0, 6), api.OK)
	mustAdd(t, x, 22, 1, api.OK)
	mustAdd(t, x, 23, 1, api.ErrFull)
	mustAdd(t, x, 6, 1, api.ErrLate)
	mustConfirm(t, x, viewed(g, 0, 100), api.OK)
	mustAdd(t, x, 22, 1, api.ErrLate)
	mustAdd(t, x, 116, 1, api.OK)
	mustBe(t, "far on", x, viewed(g, 0, 100), 1, 116)
}

// P16.1: Add's errors

func TestMovesThatAreNotLegal(t *testing.T) {
	words := []uint32{0, 1, 2, 3, 9, 10, 11, 255, 256, 65535, 65536, 1<<31 - 1, 1 << 31, 1<<31 + 1, last - 1, last}
	for _, moves := range words[1:] {
		g := game(3, 2)
		g.Moves, g.Default = moves, 0
		for _, move := range words {
			x := behind(g, 0, 5)
			if move < moves {
				mustAdd(t, x, 6, move, api.OK)
				mustBe(t, move, x, viewed(g, 0, 5), 0, 6)
				if got := value(x.Shown(6), 0); got != 5*3+int32(move)+6 {
					t.Fatalf("%d of %d: %d", move, moves, got)
				}
			} else {
				mustAdd(t, x, 6, move, api.ErrArg)
				mustBe(t, move, x, viewed(g, 0, 5), 0)
			}
		}
	}
}

// TestTheTimeOfAMove asks at many ticks for all ticks about.
func TestTheTimeOfAMove(t *testing.T) {
	g := game(3, 2)
	for now := range uint32(40) {
		for tick := range uint32(70) {
			x := behind(g, 1, now)
			known := viewed(g, 1, now)
			switch {
			case tick <= now:
				mustAdd(t, x, tick, 3, api.ErrLate)
				mustBe(t, tick, x, known, 0)
			case tick > now+16:
				mustAdd(t, x, tick, 3, api.ErrFull)
				mustBe(t, tick, x, known, 0)
			default:
				mustAdd(t, x, tick, 3, api.OK)
				mustBe(t, tick, x, known, 0, tick)
			}
		}
		x := behind(g, 1, now)
		for _, tick := range []uint32{1<<31 - 1, 1 << 31, 1<<31 + 1, last - 16, last - 1, last} {
			mustAdd(t, x, tick, 3, api.ErrFull)
		}
	}
}

// TestTheSumDoesNotGoRound asks near the last tick of all, and near the one in the middle.
func TestTheSumDoesNotGoRound(t *testing.T) {
	g := game(3, 2)
	for left := range uint32(20) {
		now := last - left
		for _, tick := range []uint32{0, 1, 2, 15, 16, 17, 1 << 31, now - 1, now} {
			mustAdd(t, behind(g, 0, now), tick, 3, api.ErrLate)
		}
		x := behind(g, 0, now)
		var pending []uint32
		for more := uint32(1); more <= left; more++ {
			want := api.OK
			if more > 16 {
				want = api.ErrFull
			} else {
				pending = append(pending, now+more)
			}
			mustAdd(t, x, now+more, 3, want)
		}
		mustBe(t, left, x, viewed(g, 0, now), 0, pending...)
	}
	mustAdd(t, behind(g, 0, 1<<31-9), 1<<31+7, 3, api.OK)
	mustAdd(t, behind(g, 0, 1<<31-9), 1<<31+8, 3, api.ErrFull)
}

// TestTheFirstMoveStays: for a tick there is one.
func TestTheFirstMoveStays(t *testing.T) {
	g := game(3, 2)
	x := behind(g, 0, 5)
	mustAdd(t, x, 6, 0, api.OK)
	mustAdd(t, x, 6, 0, api.ErrState)
	mustAdd(t, x, 6, 4, api.ErrState)
	mustAdd(t, x, 7, 7, api.OK) // the default is a move, too
	mustAdd(t, x, 7, 4, api.ErrState)
	mustBe(t, "two", x, viewed(g, 0, 5), 0, 6, 7)
	if got := value(x.Shown(7), 0); got != (5*3+0+6)*3+7+7 {
		t.Error(got)
	}
}

// TestTheOrderOfErrors: of those that hold the first one is answered.
func TestTheOrderOfErrors(t *testing.T) {
	g := game(3, 2)
	x := behind(g, 0, 5)
	mustAdd(t, x, 8, 1, api.OK)
	mustAdd(t, x, 5, 10, api.ErrArg)
	mustAdd(t, x, 22, 10, api.ErrArg)
	mustAdd(t, x, 8, 10, api.ErrArg)
	mustAdd(t, x, 9, last, api.ErrArg)
	mustAdd(t, x, 5, 1, api.ErrLate)
	mustAdd(t, x, 22, 1, api.ErrFull)
	mustAdd(t, x, 8, 1, api.ErrState)
	mustBe(t, "the first one alone", x, viewed(g, 0, 5), 0, 8)
}

// TestObserversThatDoNotPlay may have moves: nothing is shown of them.
func TestObserversThatDoNotPlay(t *testing.T) {
	g := game(3, 2)
	for _, o := range observers() {
		x := behind(g, o, 5)
		mustAdd(t, x, 6, 1, api.OK)
		mustAdd(t, x, 9, 10, api.ErrArg)
		mustBe(t, o, x, viewed(g, o, 5), 0, 6)
		if o < 0 || o > 1 {
			mustState(t, o, x.Shown(9), behind(g, o, 5).Shown(9))
		}
	}
}

// P16.2: Shown

// TestShownByHand: of each tick the player's own cell, the one of the tick, and nothing of the others.
func TestShownByHand(t *testing.T) {
	g := game(3, 2)
	moves := map[uint32]uint32{6: 1, 7: 2, 9: 0, 12: 9, 21: 3}
	for o := range 2 {
		x := behind(g, o, 5)
		for tick, move := range moves {
			mustAdd(t, x, tick, move, api.OK)
		}
		own := int32(5)
		for tick := uint32(6); tick <= 21; tick++ {
			move, there := moves[tick]
			if !there {
				move = 7
			}
			own = own*3 + int32(move) + int32(tick)
			want := viewed(g, o, tick)
			want = with(t, want, o, board.Cell{Value: own, Seen: mask.Of(o)})
			want = with(t, want, 2, board.Cell{Value: int32(tick), Seen: 7})
			mustState(t, tick, x.Shown(tick), want)
		}
		mustBe(t, "as it was", x, viewed(g, o, 5), 0, 6, 7, 9, 12, 21)
	}
}

// TestTheExample: two steps on.
func TestTheExample(t *testing.T) {
	g := game(3, 2)
	x := New(g, 0)
	view := viewed(g, 0, 5)
	x.Reset(view)
	mustAdd(t, x, 7, 1, api.OK)
	mustState(t, "two steps", x.Shown(7), g.Predict(g.Predict(view, 0, 7), 0, 1))
}

// TestHowFarShownGoes: from what is known up to Ring ticks on, whichever tick it is asked of.
func TestHowFarShownGoes(t *testing.T) {
	g := game(3, 2)
	for _, now := range []uint32{0, 1, 15, 16, 17, 100, 1<<31 - 9, 1 << 31, last - 40} {
		x := behind(g, 0, now)
		mustAdd(t, x, now+16, 1, api.OK)
		var fold []rules.State
		s := viewed(g, 0, now)
		for more := range uint32(17) {
			if more > 0 {
				move := uint32(7)
				if more == 16 {
					move = 1
				}
				s = g.Predict(s, 0, move)
			}
			fold = append(fold, s)
			mustState(t, []uint32{now, more}, x.Shown(now+more), s)
		}
		for _, tick := range []uint32{now + 17, now + 18, now + 30, last} {
			mustState(t, []uint32{now, tick}, x.Shown(tick), fold[16])
		}
		for _, tick := range []uint32{0, now / 2, now - min(now, 17), now - min(now, 16), now - min(now, 1)} {
			mustState(t, []uint32{now, tick}, x.Shown(tick), fold[0])
		}
	}
}

// TestShownNearTheLastTick goes up to it, and not round.
func TestShownNearTheLastTick(t *testing.T) {
	g := game(3, 2)
	for left := range uint32(20) {
		now := last - left
		x := behind(g, 0, now)
		s := viewed(g, 0, now)
		for more := uint32(1); more <= min(left, 16); more++ {
			s = g.Predict(s, 0, 7)
			mustState(t, []uint32{left, more}, x.Shown(now+more), s)
		}
		mustState(t, left, x.Shown(last), s)
		for _, tick := range []uint32{0, 1, 15, 16, 1 << 31, now - 1, now} {
			mustState(t, []uint32{left, tick}, x.Shown(tick), viewed(g, 0, now))
		}
	}
}

// TestShownOfStepsThatFail: the ticks go on, as those of the game do.
func TestShownOfStepsThatFail(t *testing.T) {
	g := game(3, 2)
	g.Code = []code.Code{{Op: code.Store, N: 2}, {Op: code.Jump, N: 1}}
	x := behind(g, 0, 5)
	mustAdd(t, x, 6, 1, api.OK)
	mustState(t, "no fuel", x.Shown(9), viewed(g, 0, 9))
	mustConfirm(t, x, viewed(g, 0, 8), api.OK)
	mustBe(t, "as it was shown", x, viewed(g, 0, 8), 0)
}

// TestShownOfGamesThatAreNotRight ends, too: Predict tells what it tells of them.
func TestShownOfGamesThatAreNotRight(t *testing.T) {
	for i, g := range wrong() {
		if g.Right() {
			t.Fatalf("%d is Right", i)
		}
		s := started(g, 5)
		for _, o := range observers() {
			x := New(g, o)
			x.Reset(s)
			mustState(t, i, x.Shown(5), s)
			for _, tick := range []uint32{6, 7, 21, 22, last} {
				mustState(t, i, x.Shown(tick), s.View(o))
			}
			x.Reset(rules.State{Board: s.Board, Tick: last - 3})
			mustState(t, i, x.Shown(last), rules.State{Board: s.Board.View(o), Tick: last - 3})
		}
	}
}

// TestMovesOfGamesThatAreNotRight: those that are Legal may be.
func TestMovesOfGamesThatAreNotRight(t *testing.T) {
	for i, g := range wrong() {
		x := New(g, 0)
		want := api.OK
		if g.Moves < 5 {
			want = api.ErrArg
		}
		mustAdd(t, x, 1, 4, want)
		mustAdd(t, x, 1, g.Moves, api.ErrArg)
		if want == api.OK {
			mustBe(t, i, x, rules.State{}, 0, 1)
			mustAdd(t, x, 1, 4, api.ErrState)
		}
		mustConfirm(t, x, rules.State{Tick: 1}, api.OK)
		mustBe(t, i, x, rules.State{Tick: 1}, 1) // its ticks don't go on
	}
}

// P16.2: Pending, Last, Room

// TestPendingIsRising, in whatever order moves were added, and however often one asks.
func TestPendingIsRising(t *testing.T) {
	g := game(3, 2)
	rolls := rand.New(rand.NewSource(2))
	for range 400 {
		now := uint32(rolls.Intn(300))
		if rolls.Intn(4) == 0 {
			now = 1<<31 - uint32(rolls.Intn(17))
		}
		x := behind(g, 0, now)
		var want []uint32
		for _, i := range rolls.Perm(16)[:rolls.Intn(17)] {
			tick := now + 1 + uint32(i)
			mustAdd(t, x, tick, 2, api.OK)
			want = append(want, tick)
		}
		slices.Sort(want)
		for range 3 {
			mustBe(t, now, x, viewed(g, 0, now), 0, want...)
		}
	}
}

func TestRoom(t *testing.T) {
	g := game(3, 2)
	x := behind(g, 0, 5)
	for many := range uint32(16) {
		if x.Room() != 16-int(many) || x.Last() != 5+many {
			t.Fatal(many, x.Room(), x.Last())
		}
		mustAdd(t, x, 6+many, 1, api.OK)
	}
	if x.Room() != 0 || x.Last() != 21 {
		t.Fatal(x.Room(), x.Last())
	}
	mustAdd(t, x, 22, 1, api.ErrFull)
	mustConfirm(t, x, x.Shown(8), api.OK)
	if x.Room() != 3 || x.Last() != 21 {
		t.Fatal(x.Room(), x.Last())
	}
	mustConfirm(t, x, x.Shown(21), api.OK)
	if x.Room() != 16 || x.Last() != 21 || x.Rolls() != 0 {
		t.Fatal(x.Room(), x.Last(), x.Rolls())
	}
}

// P16.2: Rolls

// TestRolls: of a Confirm up to Ring ticks on, all that it tells is held against what was shown.
func TestRolls(t *testing.T) {
	g := game(3, 2)
	others := []func(s rules.State) rules.State{
		func(s rules.State) rules.State { return with(t, s, 0, board.Cell{Value: value(s, 0) + 1, Seen: 1}) },
		func(s rules.State) rules.State { return with(t, s, 1, board.Cell{Value: 1, Seen: 2}) },
		func(s rules.State) rules.State { return with(t, s, 3, board.Cell{Seen: 2}) },
		func(s rules.State) rules.State { return with(t, s, 4, board.Cell{Value: -60, Seen: 1}) },
		func(s rules.State) rules.State { s.Dice = dice.Dice{State: 1}; return s },
		func(s rules.State) rules.State { s.Board, _ = board.New(s.Board.Cells()[:4]...); return s },
		func(s rules.State) rules.State { s.Board = board.Board{}; return s },
	}
	for _, now := range []uint32{0, 5, 1<<31 - 9, last - 20} {
		for more := uint32(1); more <= 20; more++ {
			x := behind(g, 0, now)
			shown := x.Shown(now + more)
			shown.Tick = now + more
			mustConfirm(t, x, shown, api.OK)
			mustBe(t, more, x, shown, 0)
			for i, change := range others {
				x := behind(g, 0, now)
				view := change(shown)
				rolls := 0
				if more <= 16 {
					rolls = 1
				}
				mustConfirm(t, x, view, api.OK)
				mustBe(t, []any{more, i}, x, view, rolls)
			}
		}
	}
}

// TestRollsNearTheLastTick: Shown goes up to it.
func TestRollsNearTheLastTick(t *testing.T) {
	g := game(3, 2)
	for left := uint32(1); left < 20; left++ {
		rolls := 0
		if left <= 16 {
			rolls = 1
		}
		x := behind(g, 0, last-left)
		mustConfirm(t, x, viewed(g, 0, last), api.OK)
		mustBe(t, left, x, viewed(g, 0, last), rolls)
	}
}

// TestRollsHangOnTheMoves: those that came in time as one thought are no rolls, those that didn't are.
func TestRollsHangOnTheMoves(t *testing.T) {
	g := game(3, 2)
	s := started(g, 0)
	x := New(g, 1)
	x.Reset(s.View(1))
	rolls := 0
	for i, c := range []struct {
		add, came uint32 // 10: none, and the default
		wrong     bool
	}{
		{4, 4, false}, {10, 7, false}, {7, 7, false}, {0, 0, false},
		{4, 5, true}, {4, 7, true}, {10, 4, true}, {7, 4, true}, {3, 3, false},
	} {
		if c.add < 10 {
			mustAdd(t, x, uint32(i+1), c.add, api.OK)
		}
		mustAdd(t, x, uint32(i+2), 9, api.OK) // of the tick behind it nothing is held against
		s, _ = g.Step(s, []uint32{uint32(i), c.came})
		mustConfirm(t, x, s.View(1), api.OK)
		if c.wrong {
			rolls++
		}
		mustBe(t, i, x, s.View(1), rolls, uint32(i+2))
		x.Reset(s.View(1))
	}
}

// TestMoreTicksAtOnce: of a Confirm of some ticks on, the moves of all of them count.
func TestMoreTicksAtOnce(t *testing.T) {
	g := game(3, 2)
	for _, late := range []uint32{0, 1, 2, 3} {
		s := started(g, 0)
		x := behind(g, 0, 0)
		for tick := uint32(1); tick <= 3; tick++ {
			mustAdd(t, x, tick, tick, api.OK)
			move := tick
			if tick == late {
				move = g.Default
			}
			s, _ = g.Step(s, []uint32{move})
		}
		rolls := 0
		if late > 0 {
			rolls = 1
		}
		mustConfirm(t, x, s.View(0), api.OK)
		mustBe(t, late, x, s.View(0), rolls)
	}
}

// TestNothingRolls: where all others take the default, and nothing else was hidden, what comes is what was shown.
func TestNothingRolls(t *testing.T) {
	g := game(3, 2)
	rolls := rand.New(rand.NewSource(4))
	for o := range 3 {
		s := started(g, 0)
		x := behind(g, o, 0)
		held := map[uint32]uint32{}
		for range 200 {
			for range rolls.Intn(3) {
				tick, move := s.Tick+1+uint32(rolls.Intn(16)), uint32(rolls.Intn(10))
				if x.Add(tick, move) == api.OK {
					held[tick] = move
				}
			}
			moves := []uint32{7, 7, 7}
			if move, there := held[s.Tick+1]; there {
				moves[o] = move
			}
			shown := x.Shown(s.Tick + 1)
			s, _ = g.Step(s, moves)
			mustState(t, o, shown, s.View(o))
			if rolls.Intn(3) > 0 || s.Tick-x.Known().Tick > 10 {
				mustConfirm(t, x, s.View(o), api.OK)
			}
		}
		if x.Rolls() != 0 {
			t.Errorf("%d: Rolls %d", o, x.Rolls())
		}
	}
}

// A nil trail

func TestANilTrail(t *testing.T) {
	var x *Trail
	for _, tick := range []uint32{0, 1, 16, 17, last} {
		mustAdd(t, x, tick, 0, api.ErrNone)
		mustAdd(t, x, tick, last, api.ErrNone)
		mustConfirm(t, x, rules.State{Tick: tick}, api.ErrNone)
		x.Reset(viewed(game(3, 2), 0, tick))
		mustState(t, tick, x.Shown(tick), rules.State{})
		mustState(t, tick, x.Known(), rules.State{})
		if x.Pending() != nil || x.Last() != 0 || x.Rolls() != 0 || x.Room() != 0 {
			t.Error("it has something")
		}
	}
}

// P1: no trail panics, the zero one neither.
func TestAZeroTrailDoesNotPanic(t *testing.T) {
	x := new(Trail)
	for _, tick := range []uint32{0, 1, 16, 17, 5, last} {
		x.Add(tick, 0)
		x.Confirm(rules.State{Tick: tick})
		x.Shown(tick + 3)
		x.Shown(last)
		x.Known()
		x.Pending()
		x.Last()
		x.Rolls()
		x.Room()
	}
	x.Reset(rules.State{Tick: 3})
}

// P16.3, P6: against the document's words

// said is a trail as the document tells of it: its moves are a list, its ticks numbers that don't go round.
type said struct {
	game  rules.Game
	o     int
	known rules.State
	list  []entry
	rolls int
}

type entry struct{ tick, move uint64 }

func (s *said) tick() uint64 { return uint64(s.known.Tick) }

func (s *said) has(tick uint64) bool {
	return slices.ContainsFunc(s.list, func(e entry) bool { return e.tick == tick })
}

func (s *said) shown(tick uint64) rules.State {
	view := s.known
	for at := s.tick() + 1; at <= min(tick, s.tick()+16); at++ {
		move := s.game.Default
		for _, e := range s.list {
			if e.tick == at {
				move = uint32(e.move)
			}
		}
		view = s.game.Predict(view, s.o, move)
	}
	return view
}

func (s *said) confirm(view rules.State) api.Errno {
	tick := uint64(view.Tick)
	if tick <= s.tick() {
		return api.ErrOld
	}
	if tick <= s.tick()+16 && s.shown(tick) != view {
		s.rolls++
	}
	s.known = view
	var left []entry
	for _, e := range s.list {
		if e.tick > tick {
			left = append(left, e)
		}
	}
	s.list = left
	return api.OK
}

func (s *said) add(tick, move uint64) api.Errno {
	switch {
	case move >= uint64(s.game.Moves):
		return api.ErrArg
	case tick <= s.tick():
		return api.ErrLate
	case tick > s.tick()+16:
		return api.ErrFull
	case s.has(tick):
		return api.ErrState
	}
	s.list = append(s.list, entry{tick, move})
	return api.OK
}

func (s *said) pending() []uint32 {
	var l []uint32
	for tick := s.tick() + 1; tick <= s.tick()+16; tick++ {
		if s.has(tick) {
			l = append(l, uint32(tick))
		}
	}
	return l
}

// played is a game that goes on: what its observers are told of it may be held back.
type played struct {
	rules.State
	past []rules.State
}

// step steps on moves of all, mostly the default.
func (p *played) step(rolls *rand.Rand, g rules.Game, own uint32, o int) {
	moves := make([]uint32, 6)
	for i := range moves {
		moves[i] = g.Default
		if rolls.Intn(8) == 0 {
			moves[i] = uint32(rolls.Intn(10))
		}
	}
	if o >= 0 && o < len(moves) && rolls.Intn(4) > 0 {
		moves[o] = own
	}
	tick := p.Tick + 1
	p.State, _ = g.Step(p.State, moves)
	p.Tick = tick
	p.past = append(p.past, p.State)
}

// games are those of the long rows: mostly such as are Right.
func games(rolls *rand.Rand) rules.Game {
	if rolls.Intn(6) == 0 {
		all := wrong()
		return all[rolls.Intn(len(all))]
	}
	players := 1 + rolls.Intn(4)
	g := game(players+rolls.Intn(3), players)
	if rolls.Intn(3) == 0 { // a cell that is shown at each third tick
		g.Code = append(g.Code,
			code.Code{Op: code.Mod, A: 6, B: 4, C: 3}, code.Code{Op: code.Branch, A: 6, N: int32(len(g.Code)) + 3},
			code.Code{Op: code.Stop}, code.Code{Op: code.Reveal, B: 7, N: int32(players) + 1, Mask: 3})
	}
	if rolls.Intn(8) == 0 {
		g.Moves, g.Default = 1, 0
	}
	return g
}

func TestItIsAsTheDocumentSays(t *testing.T) {
	errs, rolled, calm := map[api.Errno]int{}, 0, 0
	for seed := range int64(200) {
		rolls := rand.New(rand.NewSource(seed))
		g := games(rolls)
		o := rolls.Intn(4)
		if rolls.Intn(10) == 0 {
			o = observers()[rolls.Intn(15)]
		}
		x, s := New(g, o), &said{game: g, o: o}
		first := []uint32{0, 0, 3, 1<<31 - 40, last - 150}[rolls.Intn(5)]
		p := &played{State: started(g, first)}
		p.past = append(p.past, p.State)
		for range 400 {
			switch n := rolls.Intn(40); {
			case n == 0:
				view := p.past[rolls.Intn(len(p.past))]
				if rolls.Intn(4) > 0 {
					view = p.View(o)
				}
				x.Reset(view)
				s.known, s.list = view, nil
			case n < 8:
				own := g.Default
				for _, e := range s.list {
					if e.tick == uint64(p.Tick)+1 {
						own = uint32(e.move)
					}
				}
				if p.Tick < last {
					p.step(rolls, g, own, o)
				}
			case n < 15:
				back := rolls.Intn(min(len(p.past), 3))
				view := p.past[len(p.past)-1-back].View(o)
				rolled -= s.rolls
				want := s.confirm(view)
				rolled += s.rolls
				if want == api.OK {
					calm++
				}
				errs[want]++
				mustConfirm(t, x, view, want)
			default:
				tick := s.known.Tick + uint32(rolls.Intn(20)) - 1
				move := uint32(rolls.Intn(11))
				want := s.add(uint64(tick), uint64(move))
				errs[want]++
				mustAdd(t, x, tick, move, want)
			}
			mustBe(t, seed, x, s.known, s.rolls, s.pending()...)
			tick := s.known.Tick + uint32(rolls.Intn(24)) - 3
			mustState(t, seed, x.Shown(tick), s.shown(uint64(tick)))
		}
	}
	for _, e := range []api.Errno{api.OK, api.ErrArg, api.ErrLate, api.ErrFull, api.ErrState, api.ErrOld} {
		if errs[e] < 1000 {
			t.Errorf("%v: %d times alone", e, errs[e])
		}
	}
	if rolled < 1000 || calm-rolled < 1000 {
		t.Errorf("%d rolls of %d", rolled, calm)
	}
}

// P3: of two games that one sees alike it is shown the same, whatever else is hidden in them.
func TestNothingIsShownOfWhatIsHidden(t *testing.T) {
	g := game(3, 2)
	g.Code = append(g.Code, code.Code{Op: code.Reveal, B: 7, N: 3, Mask: 7}) // what is hidden is predicted as 0, or rolled by dice that nobody knows
	for o := range 3 {
		var shown [2][]rules.State
		for i := range shown {
			s, _ := g.Start(uint64(i)*99, []int32{int32(i) * 7})
			s = with(t, s, (o+1)%2, board.Cell{Value: int32(i), Seen: mask.Of((o + 1) % 2).Less(mask.Of(o))})
			if o == 2 {
				s = with(t, s, 0, board.Cell{Value: int32(i), Seen: 1})
			}
			x := New(g, o)
			x.Reset(s.View(o))
			mustAdd(t, x, 3, 1, api.OK)
			for tick := range uint32(20) {
				shown[i] = append(shown[i], x.Shown(tick))
				mustState(t, "a view", x.Shown(tick).View(o), x.Shown(tick))
			}
		}
		if !slices.Equal(shown[0], shown[1]) {
			t.Errorf("%d is shown what it may not see", o)
		}
	}
}

// The rules of memory, and objects.

// TestNothingOfTheGameIsKept writes over the lists that were handed in, up to their spare room.
func TestNothingOfTheGameIsKept(t *testing.T) {
	g := game(3, 2)
	want := behind(game(3, 2), 0, 5)
	cells := append(make([]board.Cell, 0, 40), g.Cells...)
	l := append(make([]code.Code, 0, 40), g.Code...)
	g.Cells, g.Code = cells, l
	wantCells, wantCode := slices.Clone(cells[:40]), slices.Clone(l[:40])
	x := New(g, 0)
	x.Reset(viewed(game(3, 2), 0, 5))
	for _, y := range []*Trail{x, want} {
		mustAdd(t, y, 7, 1, api.OK)
	}
	mustState(t, "ahead of it", x.Shown(9), want.Shown(9))
	if !slices.Equal(cells[:40], wantCells) || !slices.Equal(l[:40], wantCode) {
		t.Error("what was handed in is changed")
	}
	clear(cells[:40])
	clear(l[:40])
	g.Moves, g.Default = 1, 0
	for tick := range uint32(30) {
		mustState(t, "behind it", x.Shown(tick), want.Shown(tick))
	}
	for i := range cells {
		cells[i].Seen = math.MaxUint32 // the game would no longer be Right
	}
	for i := range l {
		l[i].Op = 255
	}
	mustState(t, "behind it", x.Shown(9), want.Shown(9))
	mustAdd(t, x, 8, 9, api.OK)
}

func TestAnswersShareNoMemory(t *testing.T) {
	x := behind(game(3, 2), 0, 5)
	for tick := uint32(6); tick < 11; tick++ {
		mustAdd(t, x, tick, 1, api.OK)
	}
	one, two := x.Pending(), x.Pending()
	one = one[:cap(one)]
	for i := range one {
		one[i] = 99
	}
	if !slices.Equal(two, []uint32{6, 7, 8, 9, 10}) {
		t.Error("two answers of Pending share their memory")
	}
	mustBe(t, "behind it", x, viewed(game(3, 2), 0, 5), 0, 6, 7, 8, 9, 10)
}

func TestTrailsHangOnThemselvesAlone(t *testing.T) {
	g := game(3, 2)
	a, b := behind(g, 0, 5), behind(g, 0, 5)
	mustAdd(t, a, 6, 1, api.OK)
	mustBe(t, "the other one", b, viewed(g, 0, 5), 0)
	mustAdd(t, b, 6, 2, api.OK)
	mustAdd(t, b, 8, 2, api.OK)
	mustConfirm(t, a, viewed(g, 0, 7), api.OK)
	mustBe(t, "the one", a, viewed(g, 0, 7), 1)
	mustBe(t, "the other one", b, viewed(g, 0, 5), 0, 6, 8)
	a.Reset(viewed(g, 0, 2))
	mustBe(t, "the other one", b, viewed(g, 0, 5), 0, 6, 8)
	if got := value(b.Shown(6), 0); got != 5*3+2+6 {
		t.Error(got)
	}
}

// TestAskingChangesNothing: the same is answered again.
func TestAskingChangesNothing(t *testing.T) {
	g := game(3, 2)
	x := behind(g, 0, 5)
	mustAdd(t, x, 8, 3, api.OK)
	want := x.Shown(12)
	for _, tick := range []uint32{0, 5, 6, 8, 21, 22, last} {
		x.Shown(tick)
		x.Known()
		mustState(t, tick, x.Shown(12), want)
		mustBe(t, tick, x, viewed(g, 0, 5), 0, 8)
	}
}
