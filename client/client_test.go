package client

import (
	"bytes"
	"math"
	"math/rand"
	"slices"
	"testing"

	"hoodwink/api"
	"hoodwink/board"
	"hoodwink/clip"
	"hoodwink/code"
	"hoodwink/delta"
	"hoodwink/dice"
	"hoodwink/frame"
	"hoodwink/link"
	"hoodwink/mask"
	"hoodwink/order"
	"hoodwink/referee"
	"hoodwink/rules"
	"hoodwink/vm"
)

const last = math.MaxUint32

// The messages of those who have nothing else to say.
var (
	hello  = frame.Message{Kind: api.Hello}
	resync = frame.Message{Kind: api.Resync}
	bye    = frame.Message{Kind: api.Bye}
)

// What one does.
var (
	none  = Act{Move: -1}
	join  = Act{Join: true, Move: -1}
	leave = Act{Leave: true, Move: -1}
)

// phases are all that there are.
var phases = []byte{Out, Joining, Live, Stale}

// input answers a move for a tick.
func input(tick, move uint32) frame.Message {
	return frame.Message{Kind: api.Input, Tick: tick, Move: move}
}

// game answers one of so many observers and players, with ten moves, of which 7 is the default. Each player has a cell that it alone sees: each tick makes it thrice what it was, and the player's move, and the tick. So which move was when is to be seen there ever after. Behind these are a cell that all see, of the tick, one that nobody sees, which is rolled, and one for 0 alone, which nothing touches.
func game(observers, players int) rules.Game {
	g := rules.Game{Observers: observers, Players: players, Moves: 10, Default: 7}
	g.Code = []code.Code{{Op: code.Set, A: 3, N: 3}, {Op: code.Clock, A: 4}}
	for p := range players {
		g.Cells = append(g.Cells, board.Cell{Value: 5, Seen: mask.Of(p)})
		g.Code = append(g.Code,
			code.Code{Op: code.Load, A: 1, N: int32(p)}, code.Code{Op: code.Mul, A: 1, B: 1, C: 3},
			code.Code{Op: code.Move, A: 2, N: int32(p)}, code.Code{Op: code.Add, A: 1, B: 1, C: 2},
			code.Code{Op: code.Add, A: 1, B: 1, C: 4}, code.Code{Op: code.Store, A: 1, N: int32(p)})
	}
	g.Cells = append(g.Cells, board.Cell{Value: -2, Seen: g.All()}, board.Cell{Value: 50}, board.Cell{Value: 60, Seen: 1})
	g.Code = append(g.Code,
		code.Code{Op: code.Store, A: 4, N: int32(players)},
		code.Code{Op: code.Roll, A: 5, N: 1000}, code.Code{Op: code.Store, A: 5, N: int32(players) + 1})
	return g
}

// wrong are games that aren't Right, each in one thing alone.
func wrong() []rules.Game {
	all := []rules.Game{{}}
	for _, change := range []func(g *rules.Game){
		func(g *rules.Game) { g.Observers = 1 },
		func(g *rules.Game) { g.Observers = 33 },
		func(g *rules.Game) { g.Observers, g.Players = math.MaxInt, math.MaxInt },
		func(g *rules.Game) { g.Observers, g.Players = math.MinInt, math.MinInt },
		func(g *rules.Game) { g.Players, g.Code = 0, nil },
		func(g *rules.Game) { g.Observers, g.Players = 9, 7 },
		func(g *rules.Game) { g.Moves = 7 },
		func(g *rules.Game) { g.Cells = make([]board.Cell, 49) },
		func(g *rules.Game) { g.Cells[3].Seen = 8 },
		func(g *rules.Game) { g.Code[2].N = 5 },
		func(g *rules.Game) { g.Code[4].N = 2 },
		func(g *rules.Game) { g.Code[1].Op = 26 },
	} {
		g := game(3, 2)
		change(&g)
		all = append(all, g)
	}
	return all
}

// observers are those of small games, and some that no game has.
func observers() []int {
	return []int{0, 1, 2, 3, 5, 6, 31, 32, 64, 256, 1 << 32, math.MaxInt, -1, -32, math.MinInt}
}

// started answers a state of g at a tick.
func started(t *testing.T, g rules.Game, tick uint32) rules.State {
	t.Helper()
	s, e := g.Start(9, []int32{77})
	if e != api.OK {
		t.Fatal(e)
	}
	s.Tick = tick
	return s
}

// full answers the Snapshot of o's view of a state.
func full(s rules.State, o int) frame.Message {
	return frame.Message{Kind: api.Snapshot, Tick: s.Tick, Delta: delta.Full(s.Board, o, s.Tick)}
}

// step answers the Step to a state of which all cells were touched.
func step(s rules.State, o int) frame.Message {
	return frame.Message{Kind: api.Step, Tick: s.Tick, Delta: delta.Full(s.Board, o, s.Tick)}
}

// at answers a state at another tick.
func at(s rules.State, tick uint32) rules.State {
	s.Tick = tick
	return s
}

// framed answers the frame of a piece.
func framed(epoch uint16, seq order.Seq, x clip.Piece) []byte {
	return frame.Frame{Epoch: epoch, Seq: seq, First: x.First, Last: x.Last, Data: x.Data}.Bytes()
}

// short answers a frame that has a message of its own.
func short(epoch uint16, seq order.Seq, m frame.Message) []byte {
	return framed(epoch, seq, clip.Piece{First: true, Last: true, Data: m.Bytes()})
}

// taken answers the messages that frames complete.
func taken(t *testing.T, l *link.Link, frames [][]byte) []frame.Message {
	t.Helper()
	var all []frame.Message
	for _, p := range frames {
		said, e := l.Take(p)
		if e != api.OK {
			t.Fatalf("% x: %v", p, e)
		}
		for _, q := range said {
			m, e := frame.Read(q)
			if e != api.OK {
				t.Fatalf("% x: %v", q, e)
			}
			all = append(all, m)
		}
	}
	return all
}

// pair is a client, and the other end of its link; nothing is lost between them.
type pair struct {
	*Client
	t   *testing.T
	o   int
	end *link.Link
	now int
}

// paired answers a pair of which the client is Out.
func paired(t *testing.T, g rules.Game, o int) *pair {
	return &pair{Client: New(g, o), t: t, o: o, end: link.New(0)}
}

// cycle lets the other end say messages, and answers those that the client says, and its error.
func (x *pair) cycle(a Act, l ...frame.Message) ([]frame.Message, api.Errno) {
	x.t.Helper()
	for _, m := range l {
		if e := x.end.Send(m.Bytes()); e != api.OK {
			x.t.Fatal(e)
		}
	}
	frames := x.end.Tick(x.now)
	if a.Join {
		frames = nil // those of the epoch that is left would be bad
	}
	out, e := x.Cycle(frames, a)
	x.now++
	if x.Epoch() != x.end.Epoch() {
		x.end = link.New(x.Epoch())
	}
	return taken(x.t, x.end, out), e
}

// does holds a cycle without an error to what the client says in it.
func (x *pair) does(a Act, want ...frame.Message) {
	x.t.Helper()
	got, e := x.cycle(a)
	mustSay(x.t, a, got, want...)
	if e != api.OK {
		x.t.Fatalf("%v: %v", a, e)
	}
}

// hears holds the client to say nothing to what it is told.
func (x *pair) hears(l ...frame.Message) {
	x.t.Helper()
	got, e := x.cycle(none, l...)
	mustSay(x.t, "to what it is told", got)
	if e != api.OK {
		x.t.Fatal(e)
	}
}

// refuses holds a move to its error: nothing is said.
func (x *pair) refuses(move int, want api.Errno) {
	x.t.Helper()
	got, e := x.cycle(Act{Move: move})
	mustSay(x.t, move, got)
	if e != want {
		x.t.Fatalf("the move %d: %v, not %v", move, e, want)
	}
}

// lives answers a pair of which the client is Live, and knows o's view of a state.
func lives(t *testing.T, g rules.Game, o int, s rules.State) *pair {
	t.Helper()
	x := paired(t, g, o)
	x.does(join, hello)
	x.hears(full(s, o))
	mustBe(t, "it is told all", x.Client, Live, s.View(o), 0, 0, 0)
	return x
}

// in answers a pair of which the client is in a phase, with a link, and what it knows then.
func in(t *testing.T, g rules.Game, o int, phase byte) (*pair, rules.State) {
	t.Helper()
	s := started(t, g, 5)
	if phase == Joining {
		x := paired(t, g, o)
		x.does(join, hello)
		return x, rules.State{}
	}
	x := lives(t, g, o, s)
	switch phase {
	case Out:
		x.does(leave, bye)
	case Stale:
		got, _ := x.cycle(none, step(at(s, 7), o))
		mustSay(t, "a gap", got, resync)
	}
	mustBe(t, Name(phase), x.Client, phase, s.View(o), 0, 0, 0)
	return x, s.View(o)
}

// mustSay holds messages to those that they should be.
func mustSay(t *testing.T, what any, got []frame.Message, want ...frame.Message) {
	t.Helper()
	if !slices.EqualFunc(got, want, frame.Like) {
		t.Fatalf("%v: %v, not %v", what, got, want)
	}
}

// mustState holds a state to that which it should be.
func mustState(t *testing.T, what any, got, want rules.State) {
	t.Helper()
	if got != want {
		t.Fatalf("%v: %v, dice %v, tick %d, not %v, dice %v, tick %d", what, got.Board.Cells(), got.Dice, got.Tick, want.Board.Cells(), want.Dice, want.Tick)
	}
}

// mustBe holds a client to all that it tells, but for its epoch, and what it shows.
func mustBe(t *testing.T, what any, c *Client, phase byte, known rules.State, aim uint32, bad, rolls int, pending ...uint32) {
	t.Helper()
	mustState(t, what, c.Known(), known)
	if c.Phase() != phase || c.Aim() != aim || c.Bad() != bad || c.Rolls() != rolls || !slices.Equal(c.Pending(), pending) {
		t.Fatalf("%v: %s, Aim %d, Bad %d, Rolls %d, Pending %v, not %s, %d, %d, %d, %v", what,
			Name(c.Phase()), c.Aim(), c.Bad(), c.Rolls(), c.Pending(), Name(phase), aim, bad, rolls, pending)
	}
}

// P17.1: New

func TestANewClient(t *testing.T) {
	for _, g := range append(wrong(), game(3, 2), game(32, 6), game(1, 1)) {
		for _, o := range observers() {
			c := New(g, o)
			mustBe(t, "a new one", c, Out, rules.State{}, 0, 0, 0)
			mustState(t, "a new one", c.Shown(), rules.State{})
			if c.Epoch() != 0 {
				t.Fatal(c.Epoch())
			}
		}
	}
}

// TestWithoutALink: whatever comes, and whatever it does but Join, nothing happens.
func TestWithoutALink(t *testing.T) {
	g := game(3, 2)
	s := started(t, g, 5)
	for o := range 3 {
		for _, frames := range [][][]byte{nil, {}, {nil, {}, {1}}, {short(0, 0, full(s, o)), short(1, 0, full(s, o)), short(0, 1, hello)}} {
			c := New(g, o)
			for _, a := range []Act{none, leave, {}, {Move: 3}, {Move: math.MaxInt}, {Leave: true, Move: 10}, {Move: math.MinInt}} {
				want := api.OK
				if a.Move >= 0 {
					want = api.ErrState
				}
				if out, e := c.Cycle(frames, a); len(out) != 0 || e != want {
					t.Fatalf("%v: % x, %v", a, out, e)
				}
				mustBe(t, a, c, Out, rules.State{}, 0, 0, 0)
				if c.Epoch() != 0 {
					t.Fatal(c.Epoch())
				}
			}
		}
	}
}

// P17.1: 1, Join

func TestTheExample(t *testing.T) {
	for _, g := range append(wrong(), game(3, 2)) {
		for _, o := range observers() {
			c := New(g, o)
			out, e := c.Cycle(nil, join)
			want := frame.Frame{Epoch: 1, First: true, Last: true, Data: []byte{1}}.Bytes()
			if e != api.OK || len(out) != 1 || !bytes.Equal(out[0], want) || c.Epoch() != 1 {
				t.Fatalf("% x, %v, epoch %d", out, e, c.Epoch())
			}
			mustBe(t, "it joins", c, Joining, rules.State{}, 0, 0, 0)
		}
	}
}

// TestJoinOfEachPhase: all begins anew, but for the epoch, and what was counted.
func TestJoinOfEachPhase(t *testing.T) {
	g := game(3, 2)
	for _, phase := range phases {
		x, _ := in(t, g, 0, phase)
		if phase == Live {
			x.does(Act{Move: 3}, input(11, 3))
			x.does(Act{Move: 4}, input(12, 4))
		}
		x.Cycle([][]byte{{1}, {2}}, none)
		for epoch := uint16(2); epoch < 9; epoch++ {
			x.does(join, hello)
			if x.Epoch() != epoch {
				t.Fatalf("%s: the epoch %d, not %d", Name(phase), x.Epoch(), epoch)
			}
			mustBe(t, Name(phase), x.Client, Joining, rules.State{}, 0, 2, 0)
			mustState(t, Name(phase), x.Shown(), rules.State{})
		}
		s := started(t, g, 3)
		x.hears(full(s, 0))
		mustBe(t, Name(phase), x.Client, Live, s.View(0), 0, 2, 0)
		x.does(Act{Move: 3}, input(9, 3)) // nothing was aimed at
	}
}

// TestJoinKeepsTheRolls: they are counted on.
func TestJoinKeepsTheRolls(t *testing.T) {
	g := game(3, 2)
	s := started(t, g, 5)
	x := lives(t, g, 0, s)
	x.hears(step(at(s, 6), 0))
	mustBe(t, "it was wrong", x.Client, Live, at(s, 6).View(0), 0, 0, 1)
	x.does(join, hello)
	mustBe(t, "it joins", x.Client, Joining, rules.State{}, 0, 0, 1)
	x.hears(full(s, 0), step(at(s, 6), 0))
	mustBe(t, "it was wrong", x.Client, Live, at(s, 6).View(0), 0, 0, 2)
}

// TestEpochsGoRound: behind the last one comes 1.
func TestEpochsGoRound(t *testing.T) {
	c := New(game(3, 2), 0)
	for i := range 65535*2 + 3 {
		want := uint16(i%65535 + 1)
		out, e := c.Cycle(nil, join)
		if e != api.OK || len(out) != 1 || c.Epoch() != want {
			t.Fatalf("the join %d: %d frames, %v, epoch %d", i, len(out), e, c.Epoch())
		}
		if f, _ := frame.Parse(out[0]); f.Epoch != want || f.Seq != 0 {
			t.Fatalf("the join %d: %v", i, f)
		}
	}
}

// TestJoinIsANewLink: what the one ahead of it had to say isn't said any more, what came to it isn't answered, and what comes of its epoch is bad.
func TestJoinIsANewLink(t *testing.T) {
	g := game(3, 2)
	s := started(t, g, 5)
	c := New(g, 0)
	c.Cycle(nil, join)
	c.Cycle([][]byte{short(1, 0, full(s, 0)), short(1, 1, step(at(s, 6), 0))}, none)
	c.Cycle(nil, Act{Move: 1})
	out, _ := c.Cycle([][]byte{short(1, 2, step(at(s, 7), 0)), short(2, 0, full(s, 0))}, join)
	want := frame.Frame{Epoch: 2, Ack: order.Acks{Next: 1}, First: true, Last: true, Data: []byte{1}}
	if len(out) != 1 || !bytes.Equal(out[0], want.Bytes()) {
		t.Fatalf("% x, not % x", out, want.Bytes())
	}
	mustBe(t, "in one Cycle", c, Live, s.View(0), 0, 1, 1)
	for _, epoch := range []uint16{0, 1, 3, 258, 65535} {
		bad := c.Bad()
		c.Cycle([][]byte{short(epoch, 1, step(at(s, 6), 0))}, none)
		mustBe(t, epoch, c, Live, s.View(0), 0, bad+1, 1)
	}
	for range 10 {
		out, _ := c.Cycle(nil, none)
		for _, p := range out {
			if f, _ := frame.Parse(p); f.Epoch != 2 || f.Seq != 0 || !bytes.Equal(f.Data, []byte{1}) {
				t.Fatalf("%v", f)
			}
		}
	}
}

// TestJoinIsFirst: the Snapshot that comes in the same Cycle is of the epoch that was left, or of the new one.
func TestJoinIsFirst(t *testing.T) {
	g := game(3, 2)
	s := started(t, g, 5)
	c := New(g, 1)
	c.Cycle([][]byte{short(1, 0, full(s, 1))}, join)
	mustBe(t, "it is there already", c, Live, s.View(1), 0, 0, 0)
	c.Cycle([][]byte{short(1, 1, full(at(s, 9), 1))}, join)
	mustBe(t, "it is of the old one", c, Joining, rules.State{}, 0, 1, 0)
	out, e := c.Cycle([][]byte{short(3, 0, full(s, 1))}, Act{Join: true, Move: 2})
	if e != api.OK {
		t.Fatal(e)
	}
	mustSay(t, "and a move", taken(t, link.New(3), out), hello, input(11, 2))
	mustBe(t, "and a move", c, Live, s.View(1), 11, 1, 0, 11)
}

// P17.1: 2, frames

func TestFramesThatAreBad(t *testing.T) {
	g := game(3, 2)
	s := started(t, g, 5)
	good := short(1, 1, step(at(s, 6), 0))
	for _, phase := range phases {
		x, known := in(t, g, 0, phase)
		bad := 0
		spoil := func(p []byte) {
			t.Helper()
			bad++
			x.Cycle([][]byte{p}, none)
			mustBe(t, p, x.Client, phase, known, 0, bad, 0)
		}
		for size := range good {
			spoil(good[:size])
		}
		for bit := range 8 * len(good) {
			p := slices.Clone(good)
			p[bit/8] ^= 1 << (bit % 8)
			spoil(p)
		}
		for _, p := range [][]byte{nil, {}, make([]byte, 300), append(slices.Clone(good), 0)} {
			spoil(p)
		}
		for _, epoch := range []uint16{0, 2, 257, 32769, 65535} {
			spoil(short(epoch, 1, step(at(s, 6), 0)))
			spoil(frame.Frame{Epoch: epoch, Alone: true}.Bytes())
		}
	}
}

// TestFramesOneByOne: each counts, those behind a bad one too.
func TestFramesOneByOne(t *testing.T) {
	g := game(3, 2)
	s := started(t, g, 5)
	c := New(g, 0)
	c.Cycle(nil, join)
	c.Cycle([][]byte{{1}, short(1, 0, full(s, 0)), {2}, {3}, short(1, 1, step(at(s, 6), 0)), short(7, 2, hello)}, none)
	mustBe(t, "two of six", c, Live, at(s, 6).View(0), 0, 4, 1)
}

// TestFramesThatCameAlready, and those that are Alone, are not bad, and do nothing.
func TestFramesThatCameAlready(t *testing.T) {
	g := game(3, 2)
	s := started(t, g, 5)
	c := New(g, 0)
	c.Cycle(nil, join)
	one, two, three := short(1, 0, full(s, 0)), short(1, 1, step(at(s, 6), 0)), short(1, 2, step(at(s, 7), 0))
	alone := frame.Frame{Epoch: 1, Ack: order.Acks{Next: 1}, Alone: true}.Bytes()
	c.Cycle([][]byte{one, one, alone, two, one, two}, none)
	mustBe(t, "twice", c, Live, at(s, 6).View(0), 0, 0, 1)
	c.Cycle([][]byte{alone, one, alone, two, three, three, one}, none)
	mustBe(t, "again", c, Live, at(s, 7).View(0), 0, 0, 2)
	c.Cycle([][]byte{short(1, 36, hello), short(1, 40000, hello)}, none) // too far on, and behind: nothing comes of them
	mustBe(t, "too far", c, Live, at(s, 7).View(0), 0, 0, 2)
}

// TestFramesOutOfOrder: messages come when all ahead of them have.
func TestFramesOutOfOrder(t *testing.T) {
	g := game(3, 2)
	s := started(t, g, 5)
	c := New(g, 0)
	c.Cycle(nil, join)
	c.Cycle([][]byte{short(1, 2, step(at(s, 7), 0)), short(1, 1, step(at(s, 6), 0))}, none)
	mustBe(t, "they wait", c, Joining, rules.State{}, 0, 0, 0)
	c.Cycle([][]byte{short(1, 0, full(s, 0))}, none)
	mustBe(t, "all at once", c, Live, at(s, 7).View(0), 0, 0, 2)
}

// TestMessagesOfManyPieces, and of one frame.
func TestMessagesOfManyPieces(t *testing.T) {
	g := rules.Game{Observers: 2, Players: 1, Moves: 2, Cells: make([]board.Cell, 48)}
	for i := range g.Cells {
		g.Cells[i] = board.Cell{Value: int32(i), Seen: mask.Mask(i % 4)}
	}
	s := started(t, g, 5)
	for o := range 2 {
		pieces, _ := clip.Split(full(s, o).Bytes())
		if len(pieces) != 7 {
			t.Fatal(len(pieces))
		}
		c := New(g, o)
		c.Cycle(nil, join)
		for i, x := range pieces {
			mustBe(t, i, c, Joining, rules.State{}, 0, 0, 0)
			c.Cycle([][]byte{framed(1, order.Seq(i), x)}, none)
		}
		mustBe(t, "all pieces", c, Live, s.View(o), 0, 0, 0)
	}
}

// TestPiecesThatTheBasketRefuses: their frame is bad, and what comes of it beside that counts all the same.
func TestPiecesThatTheBasketRefuses(t *testing.T) {
	g := game(3, 2)
	s := started(t, g, 5)
	c := New(g, 0)
	c.Cycle(nil, join)
	c.Cycle([][]byte{framed(1, 0, clip.Piece{Last: true, Data: []byte{1}})}, none)
	mustBe(t, "nothing is begun", c, Joining, rules.State{}, 0, 1, 0)
	c.Cycle([][]byte{framed(1, 1, clip.Piece{Data: make([]byte, 64)})}, none) // left out, up to the next First
	mustBe(t, "left out", c, Joining, rules.State{}, 0, 1, 0)
	c.Cycle([][]byte{
		short(1, 3, full(s, 0)),
		framed(1, 4, clip.Piece{First: true, Data: []byte{6}}), // refused
		framed(1, 5, clip.Piece{Last: true}),                   // left out
		short(1, 6, step(at(s, 6), 0)),
		short(1, 7, bye),                                    // a bad message
		framed(1, 8, clip.Piece{Data: make([]byte, 3)}),     // refused
		framed(1, 9, clip.Piece{First: true, Last: true}),   // no message
		framed(1, 10, clip.Piece{Last: true, Data: nil}),    // refused
		framed(1, 11, clip.Piece{First: true, Last: false}), // refused
	}, none)
	mustBe(t, "they wait", c, Joining, rules.State{}, 0, 1, 0)
	c.Cycle([][]byte{short(1, 2, hello)}, none) // a bad message, and one frame that is bad for all those refused
	mustBe(t, "all of that", c, Live, at(s, 6).View(0), 0, 5, 1)
}

// P17.1: 2, messages

// TestMessagesOfEachPhase: of each kind, in each phase, what becomes of it.
func TestMessagesOfEachPhase(t *testing.T) {
	g := game(3, 2)
	s := started(t, g, 5)
	snapshot, next := full(at(s, 40), 0), step(at(s, 6), 0)
	notOne, notNext := snapshot, next
	notOne.Delta.Hash++
	notNext.Delta.Hash++
	type came struct {
		phase byte
		tick  uint32
		bad   int
		rolls int
	}
	for _, x := range []struct {
		what string
		p    []byte
		want [4]came // by phase
	}{
		{"hello", hello.Bytes(), [4]came{{Out, 5, 1, 0}, {Joining, 0, 1, 0}, {Live, 5, 1, 0}, {Stale, 5, 1, 0}}},
		{"input", input(6, 1).Bytes(), [4]came{{Out, 5, 1, 0}, {Joining, 0, 1, 0}, {Live, 5, 1, 0}, {Stale, 5, 1, 0}}},
		{"resync", resync.Bytes(), [4]came{{Out, 5, 1, 0}, {Joining, 0, 1, 0}, {Live, 5, 1, 0}, {Stale, 5, 1, 0}}},
		{"bye", bye.Bytes(), [4]came{{Out, 5, 1, 0}, {Joining, 0, 1, 0}, {Live, 5, 1, 0}, {Stale, 5, 1, 0}}},
		{"no bytes", nil, [4]came{{Out, 5, 1, 0}, {Joining, 0, 1, 0}, {Live, 5, 1, 0}, {Stale, 5, 1, 0}}},
		{"kind 0", []byte{0}, [4]came{{Out, 5, 1, 0}, {Joining, 0, 1, 0}, {Live, 5, 1, 0}, {Stale, 5, 1, 0}}},
		{"kind 7", []byte{7}, [4]came{{Out, 5, 1, 0}, {Joining, 0, 1, 0}, {Live, 5, 1, 0}, {Stale, 5, 1, 0}}},
		{"a snapshot", snapshot.Bytes(), [4]came{{Out, 5, 0, 0}, {Live, 40, 0, 0}, {Live, 40, 0, 0}, {Live, 40, 0, 0}}},
		{"less than a snapshot", snapshot.Bytes()[:20], [4]came{{Out, 5, 1, 0}, {Joining, 0, 1, 0}, {Live, 5, 1, 0}, {Stale, 5, 1, 0}}},
		{"a wrong snapshot", notOne.Bytes(), [4]came{{Out, 5, 0, 0}, {Joining, 0, 1, 0}, {Live, 5, 1, 0}, {Stale, 5, 1, 0}}},
		{"the next step", next.Bytes(), [4]came{{Out, 5, 0, 0}, {Joining, 0, 0, 0}, {Live, 6, 0, 1}, {Stale, 5, 0, 0}}},
		{"more than a step", append(next.Bytes(), 0), [4]came{{Out, 5, 1, 0}, {Joining, 0, 1, 0}, {Live, 5, 1, 0}, {Stale, 5, 1, 0}}},
		{"a wrong step", notNext.Bytes(), [4]came{{Out, 5, 0, 0}, {Joining, 0, 0, 0}, {Stale, 5, 1, 0}, {Stale, 5, 0, 0}}},
		{"a gap", step(at(s, 7), 0).Bytes(), [4]came{{Out, 5, 0, 0}, {Joining, 0, 0, 0}, {Stale, 5, 0, 0}, {Stale, 5, 0, 0}}},
		{"the same tick", step(s, 0).Bytes(), [4]came{{Out, 5, 0, 0}, {Joining, 0, 0, 0}, {Live, 5, 0, 0}, {Stale, 5, 0, 0}}},
	} {
		for _, phase := range phases {
			y, _ := in(t, g, 0, phase)
			if e := y.end.Send(x.p); e != api.OK {
				t.Fatal(e)
			}
			got, _ := y.cycle(none)
			want := x.want[phase]
			known := rules.State{}
			if want.tick > 0 {
				known = at(s, want.tick).View(0)
			}
			mustBe(t, x.what+", "+Name(phase), y.Client, want.phase, known, 0, want.bad, want.rolls)
			if phase == Live && want.phase == Stale {
				mustSay(t, x.what, got, resync)
			} else {
				mustSay(t, x.what, got)
			}
			if y.Epoch() != 1 {
				t.Fatal(y.Epoch())
			}
		}
	}
}

// TestTheStepToTheFirstTick: one that Joins knows the zero state, but isn't told Steps.
func TestTheStepToTheFirstTick(t *testing.T) {
	g := rules.Game{Observers: 1, Players: 1, Moves: 1}
	s := started(t, g, 1)
	x, _ := in(t, g, 0, Joining)
	x.hears(step(s, 0), step(at(s, 2), 0))
	mustBe(t, "Joining", x.Client, Joining, rules.State{}, 0, 0, 0)
	x.hears(full(at(s, 0), 0), step(s, 0))
	mustBe(t, "Live", x.Client, Live, s.View(0), 0, 0, 0)
}

// TestSnapshots: of each tick, what is known is that alone.
func TestSnapshots(t *testing.T) {
	g := game(3, 2)
	for o := range 3 {
		x := paired(t, g, o)
		x.does(join, hello)
		for _, tick := range []uint32{0, 1, 9, 3, 3, 1 << 31, last, last - 1, 2} {
			s := started(t, g, tick)
			s.Board, _ = s.Board.Put(2, board.Cell{Value: int32(tick), Seen: 7})
			x.hears(full(s, o))
			mustBe(t, tick, x.Client, Live, s.View(o), 0, 0, 0)
			mustState(t, tick, x.Shown(), s.View(o))
		}
	}
}

// TestSnapshotsAreResets: there are no moves any more, but what was aimed at was, and how often it was wrong stays.
func TestSnapshotsAreResets(t *testing.T) {
	g := game(3, 2)
	s := started(t, g, 5)
	for _, phase := range []byte{Live, Stale} {
		x := lives(t, g, 0, s)
		x.hears(step(at(s, 6), 0))
		x.does(Act{Move: 1}, input(12, 1))
		x.does(Act{Move: 2}, input(13, 2))
		mustBe(t, "ahead", x.Client, Live, at(s, 6).View(0), 13, 0, 1, 12, 13)
		if phase == Stale {
			got, _ := x.cycle(none, step(at(s, 8), 0))
			mustSay(t, "a gap", got, resync)
			mustBe(t, "a gap", x.Client, Stale, at(s, 6).View(0), 13, 0, 1, 12, 13)
		}
		x.hears(full(at(s, 7), 0))
		mustBe(t, "behind", x.Client, Live, at(s, 7).View(0), 13, 0, 1)
		x.does(Act{Move: 3}, input(14, 3))
		mustBe(t, "a move", x.Client, Live, at(s, 7).View(0), 14, 0, 1, 14)
	}
}

// TestSnapshotsThatAreNone: their Board isn't one, or hasn't as many cells as the game.
func TestSnapshotsThatAreNone(t *testing.T) {
	g := game(3, 2)
	s := started(t, g, 5)
	cells := s.View(0).Board.Cells()
	of := func(cells ...board.Cell) frame.Message {
		b, _ := board.New(cells...)
		return full(rules.State{Board: b, Tick: 9}, 0)
	}
	gap, hash, label := full(at(s, 9), 0), full(at(s, 9), 0), full(at(s, 9), 0)
	gap.Delta.Places[4] = 5
	hash.Delta.Hash ^= 1 << 31
	label.Delta.Cells[1].Seen = 3
	behind, sparse := full(at(s, 9), 0), full(at(s, 9), 0)
	for i := range behind.Delta.Places {
		behind.Delta.Places[i]++
	}
	sparse.Delta.Places = []byte{0, 1, 2, 3, 47}
	some := frame.Message{Kind: api.Snapshot, Tick: 9, Delta: delta.Of(s.Board, 0b11110, 0, 9)}
	for i, m := range []frame.Message{
		of(), of(cells[:4]...), of(append(cells, board.Cell{})...), of(make([]board.Cell, 48)...),
		gap, hash, label, behind, sparse, some,
	} {
		for _, phase := range phases[1:] {
			x, known := in(t, g, 0, phase)
			x.hears(m)
			mustBe(t, i, x.Client, phase, known, 0, 1, 0)
			x.hears(m, m)
			mustBe(t, i, x.Client, phase, known, 0, 3, 0)
			x.hears(full(at(s, 9), 0))
			mustBe(t, i, x.Client, Live, at(s, 9).View(0), 0, 3, 0)
		}
	}
}

// TestHowManyCells: of games of each number of cells, Snapshots of each number.
func TestHowManyCells(t *testing.T) {
	for cells := range 50 {
		g := rules.Game{Observers: 1, Players: 1, Moves: 1, Cells: make([]board.Cell, cells)}
		for size := range 49 {
			b, _ := board.New(make([]board.Cell, size)...)
			x := paired(t, g, 0)
			x.does(join, hello)
			x.hears(full(rules.State{Board: b, Tick: 3}, 0))
			if size == cells {
				mustBe(t, size, x.Client, Live, rules.State{Board: b, Tick: 3}, 0, 0, 0)
			} else {
				mustBe(t, size, x.Client, Joining, rules.State{}, 0, 1, 0)
			}
		}
	}
}

// TestStepsByHand: tick by tick it knows what there is to see.
func TestStepsByHand(t *testing.T) {
	g := game(3, 2)
	for o := range 3 {
		s := started(t, g, 5)
		x := lives(t, g, o, s)
		for i := range 30 {
			next, came := g.Step(s, []uint32{uint32(i % 10), 3})
			s = next
			x.hears(frame.Message{Kind: api.Step, Tick: s.Tick, Delta: delta.Of(s.Board, came.Touched, o, s.Tick)})
			c := x.Client
			mustState(t, i, c.Known(), s.View(o))
			if c.Phase() != Live || c.Bad() != 0 {
				t.Fatal(c.Phase(), c.Bad())
			}
			mustState(t, i, c.Shown(), s.View(o))
		}
	}
}

// TestStepsThatDoNotApply: bad, Stale, and Resync is sent once; Steps are nothing till a Snapshot comes.
func TestStepsThatDoNotApply(t *testing.T) {
	g := game(3, 2)
	s := started(t, g, 5)
	hash, place, value := step(at(s, 6), 0), step(at(s, 6), 0), step(at(s, 6), 0)
	hash.Delta.Hash++
	place.Delta.Places[4] = 5
	value.Delta.Cells[0].Value++
	empty := frame.Message{Kind: api.Step, Tick: 6, Delta: delta.Delta{Tick: 6}}
	for i, m := range []frame.Message{hash, place, value, empty} {
		x := lives(t, g, 0, s)
		x.does(Act{Move: 2}, input(11, 2))
		shown := x.Shown()
		got, _ := x.cycle(none, m)
		mustSay(t, i, got, resync)
		mustBe(t, i, x.Client, Stale, s.View(0), 11, 1, 0, 11)
		mustState(t, i, x.Shown(), shown)
		x.hears(m, step(at(s, 6), 0), step(at(s, 7), 0), step(at(s, 9), 0), step(s, 0))
		mustBe(t, i, x.Client, Stale, s.View(0), 11, 1, 0, 11)
		x.refuses(3, api.ErrState)
		x.hears(full(at(s, 12), 0), step(at(s, 13), 0))
		mustBe(t, i, x.Client, Live, at(s, 13).View(0), 11, 1, 1)
	}
}

// TestTheTicksOfSteps: of each that is known, those about it.
func TestTheTicksOfSteps(t *testing.T) {
	g := game(3, 2)
	s := started(t, g, 0)
	for _, known := range []uint32{0, 1, 2, 40, 255, 256, 65535, 1<<31 - 1, 1 << 31, last - 2, last - 1, last} {
		for _, tick := range []uint32{0, 1, known - 3, known - 2, known - 1, known, known + 1, known + 2, known + 3, known + 16, known + 17, known ^ 1<<31, last - 1, last} {
			x := lives(t, g, 0, at(s, known))
			got, _ := x.cycle(none, step(at(s, tick), 0))
			switch {
			case uint64(tick) == uint64(known)+1:
				mustSay(t, tick, got)
				mustBe(t, []uint32{known, tick}, x.Client, Live, at(s, tick).View(0), 0, 0, 1)
			case tick > known:
				mustSay(t, tick, got, resync)
				mustBe(t, []uint32{known, tick}, x.Client, Stale, at(s, known).View(0), 0, 0, 0)
			default:
				mustSay(t, tick, got)
				mustBe(t, []uint32{known, tick}, x.Client, Live, at(s, known).View(0), 0, 0, 0)
			}
		}
	}
}

// TestOldStepsThatDoNotApply, and those behind a gap, aren't bad.
func TestOldStepsThatDoNotApply(t *testing.T) {
	g := game(3, 2)
	s := started(t, g, 5)
	for _, tick := range []uint32{0, 4, 5, 7, last} {
		m := step(at(s, tick), 0)
		m.Delta.Hash++
		x := lives(t, g, 0, s)
		x.cycle(none, m)
		phase := byte(Live)
		if tick > 5 {
			phase = Stale
		}
		mustBe(t, tick, x.Client, phase, s.View(0), 0, 0, 0)
	}
}

// TestManyMessagesInOneCycle: message by message, each is heard by the phase that those ahead of it led to.
func TestManyMessagesInOneCycle(t *testing.T) {
	g := game(3, 2)
	s := started(t, g, 5)
	x := paired(t, g, 0)
	x.does(join, hello)
	got, _ := x.cycle(none,
		step(at(s, 6), 0), full(s, 0), step(at(s, 6), 0), step(at(s, 8), 0), step(at(s, 7), 0), // Joining, Live, Live, Stale, Stale
		full(at(s, 9), 0), step(at(s, 11), 0), hello, full(at(s, 20), 0), step(at(s, 21), 0)) // Live, Stale, bad, Live, Live
	mustSay(t, "two gaps", got, resync, resync)
	mustBe(t, "at last", x.Client, Live, at(s, 21).View(0), 0, 1, 2)
}

// TestStepsConfirm: moves up to its tick are gone, and those behind it stay; where nothing else came than was shown, it is no roll.
func TestStepsConfirm(t *testing.T) {
	g := game(3, 2)
	s := started(t, g, 5)
	x := lives(t, g, 1, s)
	x.does(Act{Move: 4}, input(11, 4))
	x.does(Act{Move: 0}, input(12, 0))
	pending := []uint32{11, 12}
	for tick := uint32(6); tick <= 14; tick++ {
		moves, rolls := []uint32{7, 7}, 0
		switch {
		case tick == 11:
			moves[1] = 4 // it came in time, and that of 12 didn't
		case tick >= 12:
			rolls = 1
		}
		s, _ = g.Step(s, moves)
		x.hears(frame.Message{Kind: api.Step, Tick: tick, Delta: delta.Of(s.Board, 0b1111, 1, tick)})
		if tick >= 11 {
			pending = []uint32{11, 12, 99, 99}[min(tick-10, 2):2]
		}
		mustBe(t, tick, x.Client, Live, s.View(1), 12, 0, rolls, pending...)
	}
}

// P17.1: 3, Leave

func TestLeave(t *testing.T) {
	g := game(3, 2)
	for _, phase := range phases {
		x, known := in(t, g, 0, phase)
		if phase == Out {
			x.does(leave)
		} else {
			x.does(leave, bye)
		}
		mustBe(t, Name(phase), x.Client, Out, known, 0, 0, 0)
		x.does(leave)
		x.does(none)
		mustBe(t, "again", x.Client, Out, known, 0, 0, 0)
		if x.Epoch() != 1 {
			t.Fatal(x.Epoch())
		}
	}
}

// TestLeaveKeepsWhatWasKnown, and its moves, and what is shown.
func TestLeaveKeepsWhatWasKnown(t *testing.T) {
	g := game(3, 2)
	s := started(t, g, 5)
	x := lives(t, g, 0, s)
	x.does(Act{Move: 3}, input(11, 3))
	shown := x.Shown()
	x.does(leave, bye)
	x.hears(step(at(s, 6), 0), full(at(s, 8), 0))
	mustBe(t, "Out", x.Client, Out, s.View(0), 11, 0, 0, 11)
	mustState(t, "Out", x.Shown(), shown)
	x.refuses(3, api.ErrState)
	x.does(join, hello)
	mustBe(t, "again", x.Client, Joining, rules.State{}, 0, 0, 0)
}

// TestTheLinkStaysBehindABye: it is said till it has come, and what comes is answered.
func TestTheLinkStaysBehindABye(t *testing.T) {
	g := game(3, 2)
	s := started(t, g, 5)
	c := New(g, 0)
	c.Cycle(nil, join)
	c.Cycle([][]byte{short(1, 0, full(s, 0))}, none)
	c.Cycle(nil, leave)
	var got []int
	for cycle := 4; cycle <= 12; cycle++ {
		out, _ := c.Cycle(nil, none)
		for _, p := range out {
			f, _ := frame.Parse(p)
			got = append(got, cycle, int(f.Data[0]))
		}
	}
	if !slices.Equal(got, []int{4, api.Hello, 6, api.Bye, 7, api.Hello, 9, api.Bye, 10, api.Hello, 12, api.Bye}) {
		t.Fatalf("%v", got)
	}
	out, _ := c.Cycle([][]byte{frame.Frame{Epoch: 1, Seq: 1, Ack: order.Acks{Next: 2}, First: true, Last: true, Data: step(at(s, 6), 0).Bytes()}.Bytes()}, none)
	if len(out) != 1 || !bytes.Equal(out[0], frame.Frame{Epoch: 1, Ack: order.Acks{Next: 2}, Alone: true}.Bytes()) {
		t.Fatalf("% x", out)
	}
	for range 10 {
		if out, e := c.Cycle(nil, leave); len(out) != 0 || e != api.OK {
			t.Fatalf("% x", out)
		}
	}
}

// TestJoinAndLeave: both in one Cycle, and a move that comes too late.
func TestJoinAndLeave(t *testing.T) {
	g := game(3, 2)
	s := started(t, g, 5)
	for _, phase := range phases {
		x, _ := in(t, g, 0, phase)
		got, e := x.cycle(Act{Join: true, Leave: true, Move: 1})
		mustSay(t, Name(phase), got, hello, bye)
		mustBe(t, Name(phase), x.Client, Out, rules.State{}, 0, 0, 0)
		if e != api.ErrState || x.Epoch() != 2 {
			t.Fatal(e, x.Epoch())
		}
	}
	x := lives(t, g, 0, s)
	got, e := x.cycle(Act{Leave: true, Move: 1}, step(at(s, 6), 0)) // it is told ahead of its leaving
	mustSay(t, "Live", got, bye)
	mustBe(t, "Live", x.Client, Out, at(s, 6).View(0), 0, 0, 1)
	if e != api.ErrState {
		t.Fatal(e)
	}
	x = lives(t, g, 0, s)
	got, _ = x.cycle(leave, step(at(s, 7), 0))
	mustSay(t, "Stale", got, resync, bye)
}

// P17.1: 4, moves

// TestMovesOfEachPhase: it must be Live, and the observer a player.
func TestMovesOfEachPhase(t *testing.T) {
	for players := 1; players <= 6; players++ {
		g := game(6, players)
		for o := range 6 {
			for _, phase := range phases {
				x, known := in(t, g, o, phase)
				if phase == Live && o < players {
					x.does(Act{Move: 9}, input(11, 9))
					mustBe(t, o, x.Client, Live, known, 11, 0, 0, 11)
					continue
				}
				for _, move := range []int{0, 1, 9, 10, math.MaxInt32, math.MaxUint32, math.MaxUint32 + 1, math.MaxInt} {
					x.refuses(move, api.ErrState)
					mustBe(t, o, x.Client, phase, known, 0, 0, 0)
				}
			}
		}
	}
}

// TestObserversThatThereAreNot don't play either.
func TestObserversThatThereAreNot(t *testing.T) {
	g := game(3, 2)
	s := started(t, g, 5)
	for _, o := range observers()[2:] {
		x := lives(t, g, o, s)
		x.refuses(3, api.ErrState)
		mustBe(t, o, x.Client, Live, s.View(o), 0, 0, 0)
	}
}

// TestMovesBelowZero are none.
func TestMovesBelowZero(t *testing.T) {
	g := game(3, 2)
	for _, phase := range phases {
		for _, move := range []int{-1, -2, -7, math.MinInt32, -1 << 32, -1<<32 + 3, math.MinInt + 3, math.MinInt} {
			x, known := in(t, g, 0, phase)
			x.does(Act{Move: move})
			mustBe(t, move, x.Client, phase, known, 0, 0, 0)
		}
	}
}

// TestMovesThatAreNotLegal, and those that are no numbers of 32 bits.
func TestMovesThatAreNotLegal(t *testing.T) {
	for _, moves := range []uint32{1, 2, 10, 256, 65536, 1 << 31, last} {
		g := game(3, 2)
		g.Moves, g.Default = moves, 0
		s := started(t, g, 5)
		for _, move := range []int{0, 1, 9, 10, 255, 256, 65535, 65536, 1<<31 - 1, 1 << 31, last - 1, last, last + 1, last + 2, last + 1 + 1<<31, 1 << 33, math.MaxInt - 1, math.MaxInt} {
			x := lives(t, g, 0, s)
			if move < int(moves) {
				x.does(Act{Move: move}, input(11, uint32(move)))
				mustBe(t, move, x.Client, Live, s.View(0), 11, 0, 0, 11)
				continue
			}
			x.refuses(move, api.ErrArg)
			mustBe(t, move, x.Client, Live, s.View(0), 0, 0, 0)
			mustState(t, move, x.Shown(), s.View(0))
			x.does(Act{Move: 0}, input(11, 0)) // it didn't aim
		}
	}
}

// TestWhatOneAimsAt: Lead ahead of what is known, or behind what it aimed at, till it is too far on.
func TestWhatOneAimsAt(t *testing.T) {
	g := game(3, 2)
	s := started(t, g, 5)
	x := lives(t, g, 0, s)
	var pending []uint32
	for tick := uint32(11); tick <= 21; tick++ {
		x.does(Act{Move: int(tick % 10)}, input(tick, tick%10))
		pending = append(pending, tick)
		mustBe(t, tick, x.Client, Live, s.View(0), tick, 0, 0, pending...)
		if got := x.Shown().Tick; got != tick {
			t.Fatal(got)
		}
	}
	x.refuses(1, api.ErrFull)
	x.refuses(10, api.ErrArg)
	mustBe(t, "too far on", x.Client, Live, s.View(0), 21, 0, 0, pending...)
	got, e := x.cycle(Act{Move: 2}, step(at(s, 6), 0)) // that makes room
	mustSay(t, "room", got, input(22, 2))
	if e != api.OK {
		t.Fatal(e)
	}
	mustBe(t, "room", x.Client, Live, at(s, 6).View(0), 22, 0, 1, append(pending, 22)...)
	x.hears(full(at(s, 17), 0)) // Lead, and what it aimed at and 1, are the same
	x.does(Act{Move: 3}, input(23, 3))
	x.hears(full(at(s, 17), 0))
	x.does(Act{Move: 3}, input(24, 3))
	x.hears(full(at(s, 19), 0))
	x.does(Act{Move: 3}, input(25, 3))
	x.hears(full(at(s, 30), 0))
	x.does(Act{Move: 3}, input(36, 3))
	mustBe(t, "far on", x.Client, Live, at(s, 30).View(0), 36, 0, 1, 36)
}

// TestItAimsBehindAnOldSnapshot: what it aimed at may be too far on, till what is known comes near.
func TestItAimsBehindAnOldSnapshot(t *testing.T) {
	g := game(3, 2)
	s := started(t, g, 100)
	x := lives(t, g, 0, s)
	x.does(Act{Move: 3}, input(106, 3))
	for _, y := range []struct {
		known uint32
		want  api.Errno
	}{{0, api.ErrFull}, {5, api.ErrFull}, {90, api.ErrFull}, {91, api.OK}} {
		x.hears(full(at(s, y.known), 0))
		mustBe(t, y, x.Client, Live, at(s, y.known).View(0), 106, 0, 0)
		if got := x.Shown().Tick; got != min(106, y.known+16) {
			t.Fatal(got)
		}
		if y.want != api.OK {
			x.refuses(4, y.want)
		}
	}
	x.does(Act{Move: 4}, input(107, 4))
}

// TestAimsGoRound: both sums do, at the last tick of all.
func TestAimsGoRound(t *testing.T) {
	g := game(3, 2)
	s := started(t, g, 0)
	for known := uint32(last - 20); known >= last-20; known++ {
		x := lives(t, g, 0, at(s, known))
		var pending []uint32
		aim := uint32(0)
		if known <= last-6 {
			for tick := known + 6; tick >= known+6 && len(pending) < 11; tick++ {
				x.does(Act{Move: 3}, input(tick, 3))
				pending = append(pending, tick)
				aim = tick
			}
		}
		mustBe(t, known, x.Client, Live, at(s, known).View(0), aim, 0, 0, pending...)
		switch {
		case known+16 < last && known+16 > known:
			x.refuses(3, api.ErrFull) // it would be too far on
		case aim == last:
			x.refuses(3, api.ErrState) // behind the last one is 0: so it is the known one and Lead again
		case aim == 0:
			x.refuses(3, api.ErrLate) // the known one and Lead is behind the last one
		}
		mustBe(t, known, x.Client, Live, at(s, known).View(0), aim, 0, 0, pending...)
	}
	x := lives(t, g, 0, at(s, last-6))
	x.does(Act{Move: 3}, input(last, 3))
	x.hears(step(at(s, last-5), 0))
	x.refuses(3, api.ErrLate) // both have gone round
	mustBe(t, "both", x.Client, Live, at(s, last-5).View(0), last, 0, 1, last)
	x = lives(t, g, 0, at(s, last-7))
	x.does(Act{Move: 3}, input(last-1, 3))
	x.hears(step(at(s, last-6), 0), step(at(s, last-5), 0)) // the one alone has
	x.does(Act{Move: 4}, input(last, 4))
	mustBe(t, "one", x.Client, Live, at(s, last-5).View(0), last, 0, 2, last-1, last)
}

// TestTheLastAimIsTheLastOne: behind the last tick it may aim at a lower one, and goes on from there.
func TestTheLastAimIsTheLastOne(t *testing.T) {
	g := game(3, 2)
	s := started(t, g, last-6)
	x := lives(t, g, 0, s)
	x.does(Act{Move: 3}, input(last, 3))
	x.hears(full(at(s, 20), 0))
	x.does(Act{Move: 4}, input(26, 4))
	mustBe(t, "the last one", x.Client, Live, at(s, 20).View(0), 26, 0, 0, 26)
	if x.Shown().Tick != 26 {
		t.Fatal(x.Shown().Tick)
	}
	x.does(Act{Move: 5}, input(27, 5))
}

// TestAnErrorChangesNothing: frames are told beside it all the same.
func TestAnErrorChangesNothing(t *testing.T) {
	g := game(3, 2)
	s := started(t, g, 5)
	c := New(g, 0)
	end := link.New(1)
	out, e := c.Cycle(nil, Act{Join: true, Move: 4})
	if e != api.ErrState {
		t.Fatal(e)
	}
	mustSay(t, "Join", taken(t, end, out), hello)
	out, e = c.Cycle([][]byte{short(1, 0, full(s, 0))}, Act{Move: 10})
	if e != api.ErrArg || len(out) != 1 || !bytes.Equal(out[0], frame.Frame{Epoch: 1, Ack: order.Acks{Next: 1}, Alone: true}.Bytes()) {
		t.Fatalf("%v, % x", e, out)
	}
	mustBe(t, "told", c, Live, s.View(0), 0, 0, 0)
	out, e = c.Cycle([][]byte{short(1, 1, step(at(s, 7), 0))}, Act{Move: 4})
	if e != api.ErrState {
		t.Fatal(e)
	}
	mustSay(t, "Stale", taken(t, end, out), resync)
	mustBe(t, "Stale", c, Stale, s.View(0), 0, 0, 0)
}

// TestMovesHangOnWhatIsTold in the same Cycle: it is heard first.
func TestMovesHangOnWhatIsTold(t *testing.T) {
	g := game(3, 2)
	s := started(t, g, 5)
	x := paired(t, g, 1)
	x.does(join, hello)
	got, e := x.cycle(Act{Move: 6}, full(s, 1), step(at(s, 6), 1), step(at(s, 7), 1))
	mustSay(t, "at once", got, input(13, 6))
	if e != api.OK {
		t.Fatal(e)
	}
	mustBe(t, "at once", x.Client, Live, at(s, 7).View(1), 13, 0, 2, 13)
}

// P17.1: 5, the link's Tick

// TestCyclesAreTheLinksTicks: what isn't answered is sent again Resend Cycles on, and Cycles without a link count, too.
func TestCyclesAreTheLinksTicks(t *testing.T) {
	for ahead := range 7 {
		c := New(game(3, 2), 0)
		for range ahead {
			c.Cycle(nil, none)
		}
		c.Cycle(nil, join)
		for i := 1; i < 20; i++ {
			if i == 10 {
				c.Cycle(nil, join) // a new link, and the Cycles are counted on
				continue
			}
			out, _ := c.Cycle(nil, none)
			if (i-i/10*10)%3 == 0 != (len(out) == 1) || len(out) > 1 {
				t.Fatalf("the Cycle %d: % x", i, out)
			}
		}
	}
}

// TestTheLinkIsTheDocuments holds a client to a link that is told the same.
func TestTheLinkIsTheDocuments(t *testing.T) {
	g := game(3, 2)
	s := started(t, g, 5)
	c, l := New(g, 0), link.New(1)
	l.Send(hello.Bytes())
	want := l.Tick(1)
	got, _ := c.Cycle(nil, join)
	rolls := rand.New(rand.NewSource(3))
	seq := order.Seq(0)
	for now := 2; now < 200; now++ {
		if !slices.EqualFunc(got, want, bytes.Equal) {
			t.Fatalf("the Cycle %d: % x, not % x", now-1, got, want)
		}
		var frames [][]byte
		if rolls.Intn(2) == 0 {
			m := full(s, 0)
			if now > 100 {
				m = step(at(s, 5+uint32(now)), 0)
			}
			f := frame.Frame{Epoch: 1, Seq: seq, First: true, Last: true, Data: m.Bytes()}
			f.Ack.Next = order.Seq(rolls.Intn(1 + now/10))
			frames = append(frames, f.Bytes())
			seq++
		}
		a := none
		if rolls.Intn(5) == 0 {
			a.Move = rolls.Intn(10)
		}
		phase := c.Phase()
		var e api.Errno
		got, e = c.Cycle(frames, a)
		for _, p := range frames {
			l.Take(p)
		}
		if phase == Live && c.Phase() == Stale {
			l.Send(resync.Bytes())
		}
		if a.Move >= 0 && e == api.OK {
			l.Send(input(c.Aim(), uint32(a.Move)).Bytes())
		}
		want = l.Tick(now)
	}
}

// TestWhatTheLinkDoesNotSend is lost: it was a move all the same, and the others go on.
func TestWhatTheLinkDoesNotSend(t *testing.T) {
	g := game(3, 2)
	s := started(t, g, 5)
	c := New(g, 0)
	c.Cycle(nil, join)
	c.Cycle([][]byte{short(1, 0, full(s, 0))}, none)
	sent := map[order.Seq][]byte{}
	note := func(out [][]byte) {
		for _, p := range out {
			f, _ := frame.Parse(p)
			if !f.Alone {
				sent[f.Seq] = f.Data
			}
		}
	}
	const most = 31 + 128 // Hello flies, and 31 more; so many more wait
	for i := range most + 5 {
		tick := uint32(6 + i)
		out, e := c.Cycle([][]byte{short(1, order.Seq(1+i), step(at(s, tick), 0))}, Act{Move: i % 10})
		if e != api.OK {
			t.Fatal(e)
		}
		note(out)
		var pending []uint32
		for at := max(11, tick) + 1; at <= tick+6; at++ {
			pending = append(pending, at)
		}
		mustBe(t, i, c, Live, at(s, tick).View(0), tick+6, 0, i+1, pending...)
	}
	tick := uint32(6 + most + 4)
	known, aim := at(s, tick).View(0), tick+6
	out, e := c.Cycle([][]byte{short(1, most+6, step(at(s, tick+5), 0))}, leave)
	note(out)
	if e != api.OK || c.Phase() != Out || c.Known() != known || c.Aim() != aim {
		t.Fatal(e, c.Phase())
	}
	for next := 0; len(sent) < 1+most; next += 32 {
		out, _ := c.Cycle([][]byte{frame.Frame{Epoch: 1, Ack: order.Acks{Next: order.Seq(min(next, 160))}, Alone: true}.Bytes()}, none)
		note(out)
	}
	for i := range most {
		if !bytes.Equal(sent[order.Seq(1+i)], input(uint32(12+i), uint32(i%10)).Bytes()) {
			t.Fatalf("the move %d: % x", i, sent[order.Seq(1+i)])
		}
	}
	for range 20 {
		out, _ := c.Cycle([][]byte{frame.Frame{Epoch: 1, Ack: order.Acks{Next: 160}, Alone: true}.Bytes()}, none)
		if len(out) != 0 {
			t.Fatalf("% x", out) // neither Resync nor Bye, nor the last moves
		}
	}
	out, _ = c.Cycle(nil, join)
	mustSay(t, "a new link", taken(t, link.New(2), out), hello)
}

// P17.2

func TestNames(t *testing.T) {
	want := []string{"out", "joining", "live", "stale"}
	for phase := range 256 {
		name := ""
		if phase < len(want) {
			name = want[phase]
		}
		if got := Name(byte(phase)); got != name {
			t.Errorf("%d: %q, not %q", phase, got, name)
		}
	}
	if Out != 0 || Joining != 1 || Live != 2 || Stale != 3 || Lead != 6 {
		t.Error("the numbers")
	}
}

// TestShownByHand: of each tick the player's own cell, the one of the tick, and nothing of the others; at the tick that it aimed at, or the known one.
func TestShownByHand(t *testing.T) {
	g := game(3, 2)
	for o := range 2 {
		s := started(t, g, 5)
		x := lives(t, g, o, s)
		mustState(t, "nothing is aimed at", x.Shown(), s.View(o))
		x.does(Act{Move: 1}, input(11, 1))
		x.does(Act{Move: 2}, input(12, 2))
		own := int32(5)
		for tick := int32(6); tick <= 12; tick++ {
			move := int32(7)
			if tick > 10 {
				move = tick - 10
			}
			own = own*3 + move + tick
		}
		b := s.View(o).Board
		b, _ = b.Put(o, board.Cell{Value: own, Seen: mask.Of(o)})
		b, _ = b.Put(2, board.Cell{Value: 12, Seen: 7})
		mustState(t, "two moves", x.Shown(), rules.State{Board: b, Tick: 12})
		for tick := uint32(6); tick < 16; tick++ {
			s, _ = g.Step(s, []uint32{3, 3})
			x.hears(step(s, o))
			want := s.View(o)
			for at := tick + 1; at <= 12; at++ {
				move := uint32(7)
				if at > 10 {
					move = at - 10
				}
				want = g.Predict(want, o, move)
			}
			mustState(t, tick, x.Shown(), want)
			if x.Aim() != 12 {
				t.Fatal(x.Aim()) // it stays, though what is known is above that
			}
		}
	}
}

func TestANilClient(t *testing.T) {
	var c *Client
	for _, a := range []Act{none, join, leave, {}, {Move: 3}, {Join: true, Leave: true, Move: math.MaxInt}} {
		for _, frames := range [][][]byte{nil, {}, {nil}, {short(0, 0, hello)}, {short(1, 0, hello)}} {
			if out, e := c.Cycle(frames, a); out != nil || e != api.ErrNone {
				t.Errorf("%v: % x, %v", a, out, e)
			}
			mustBe(t, a, c, Out, rules.State{}, 0, 0, 0)
			mustState(t, a, c.Shown(), rules.State{})
			if c.Epoch() != 0 {
				t.Error(c.Epoch())
			}
		}
	}
}

// P1: no client panics, the zero one neither.
func TestAZeroClientDoesNotPanic(t *testing.T) {
	c := new(Client)
	for _, a := range []Act{none, {Move: 3}, join, none, {Move: 3}, leave, {}} {
		for _, m := range []frame.Message{hello, full(rules.State{}, 0), step(rules.State{Tick: 1}, 0), step(rules.State{Tick: 3}, 0)} {
			for seq := range order.Seq(9) {
				c.Cycle([][]byte{nil, short(1, seq, m)}, a)
			}
		}
		c.Known()
		c.Shown()
		c.Pending()
		c.Epoch()
		c.Rolls()
		c.Bad()
		c.Aim()
		c.Phase()
	}
}

// TestGamesThatAreNotRight: a client of one goes on as that of another.
func TestGamesThatAreNotRight(t *testing.T) {
	for i, g := range wrong() {
		for _, o := range observers() {
			x := paired(t, g, o)
			x.does(join, hello)
			b, e := board.New(g.Cells...)
			if e != api.OK {
				x.hears(full(rules.State{Tick: 3}, 0))
				mustBe(t, i, x.Client, Joining, rules.State{}, 0, 1, 0)
				continue
			}
			s := rules.State{Board: b, Tick: 3}
			x.hears(full(s, o))
			mustBe(t, i, x.Client, Live, s.View(o), 0, 0, 0)
			x.cycle(Act{Move: 3})
			x.Shown()
			x.hears(step(at(s, 4), o))
			mustState(t, i, x.Known(), at(s, 4).View(o))
		}
	}
}

// P2, P6: against the document's words

// said is a client as the document tells of it: its moves are a list, its ticks numbers that don't go round, but where the words say so.
type said struct {
	game   rules.Game
	o      int
	phase  byte
	epoch  uint16
	link   *link.Link
	known  rules.State
	list   []entry
	cycles int
	bad    int
	rolls  int
	aim    uint32
}

type entry struct {
	tick uint64
	move uint32
}

func (s *said) has(tick uint64) bool {
	return slices.ContainsFunc(s.list, func(e entry) bool { return e.tick == tick })
}

// fold answers what is known, stepped on its own moves up to a tick.
func (s *said) fold(tick uint64) rules.State {
	view := s.known
	known := uint64(s.known.Tick)
	for at := known + 1; at <= min(tick, known+16, last); at++ {
		move := s.game.Default
		for _, e := range s.list {
			if e.tick == at {
				move = e.move
			}
		}
		view = s.game.Predict(view, s.o, move)
	}
	return view
}

func (s *said) shown() rules.State { return s.fold(uint64(max(s.aim, s.known.Tick))) }

func (s *said) confirm(view rules.State) {
	tick := uint64(view.Tick)
	if tick <= uint64(s.known.Tick)+16 && s.fold(tick) != view {
		s.rolls++
	}
	s.known = view
	s.list = slices.DeleteFunc(s.list, func(e entry) bool { return e.tick <= tick })
}

func (s *said) hear(m frame.Message, e api.Errno) {
	if e != api.OK || m.Kind != api.Snapshot && m.Kind != api.Step {
		s.bad++
		return
	}
	if m.Kind == api.Snapshot {
		if s.phase == Out {
			return
		}
		b, e := m.Delta.Board()
		if e != api.OK || len(b.Cells()) != len(s.game.Cells) {
			s.bad++
			return
		}
		s.known, s.list, s.phase = rules.State{Board: b, Dice: dice.Dice{}, Tick: m.Delta.Tick}, nil, Live
		return
	}
	if s.phase != Live {
		return
	}
	next := uint64(s.known.Tick) + 1
	if uint64(m.Tick) < next {
		return
	}
	if uint64(m.Tick) == next {
		b, e := m.Delta.Apply(s.known.Board)
		if e == api.OK {
			s.confirm(rules.State{Board: b, Tick: m.Tick})
			return
		}
		s.bad++
	}
	s.phase = Stale
	s.link.Send(resync.Bytes())
}

func (s *said) move(move int) api.Errno {
	switch {
	case move < 0:
		return api.OK
	case s.phase != Live || s.o < 0 || s.o >= s.game.Players:
		return api.ErrState
	case move > last || move >= int(s.game.Moves):
		return api.ErrArg
	}
	tick := s.known.Tick + 6
	if s.aim+1 > tick {
		tick = s.aim + 1
	}
	switch {
	case tick <= s.known.Tick:
		return api.ErrLate
	case uint64(tick) > uint64(s.known.Tick)+16:
		return api.ErrFull
	case s.has(uint64(tick)):
		return api.ErrState
	}
	s.list = append(s.list, entry{uint64(tick), uint32(move)})
	s.link.Send(input(tick, uint32(move)).Bytes())
	s.aim = tick
	return api.OK
}

func (s *said) cycle(in [][]byte, a Act) ([][]byte, api.Errno) {
	s.cycles++
	if a.Join {
		s.epoch++
		if s.epoch == 0 {
			s.epoch = 1
		}
		s.link = link.New(s.epoch)
		s.link.Send(hello.Bytes())
		s.phase, s.known, s.list, s.aim = Joining, rules.State{}, nil, 0
	}
	if s.link != nil {
		for _, p := range in {
			l, e := s.link.Take(p)
			if e != api.OK {
				s.bad++
			}
			for _, q := range l {
				s.hear(frame.Read(q))
			}
		}
	}
	if a.Leave && s.phase != Out {
		s.link.Send(bye.Bytes())
		s.phase = Out
	}
	e := s.move(a.Move)
	if s.link == nil {
		return nil, e
	}
	return s.link.Tick(s.cycles), e
}

func (s *said) pending() []uint32 {
	var l []uint32
	for _, e := range s.list {
		l = append(l, uint32(e.tick))
	}
	slices.Sort(l)
	return l
}

// wire loses frames, doubles them, holds them back and spoils up to 32 bits in a row of them.
type wire [4][][]byte

func (w *wire) put(rolls *rand.Rand, frames [][]byte) {
	for _, p := range frames {
		late := rolls.Intn(3) * rolls.Intn(2)
		switch rolls.Intn(8) {
		case 0:
			continue
		case 1:
			w[3] = append(w[3], p)
		case 2:
			if len(p) > 0 {
				p = spoilt(rolls, p)
			}
		}
		w[late] = append(w[late], p)
	}
}

// spoilt answers p with some of 32 bits in a row turned.
func spoilt(rolls *rand.Rand, p []byte) []byte {
	p = slices.Clone(p)
	first, turned := rolls.Intn(8*len(p)), rolls.Uint32()|1
	for i := first; i < min(first+32, 8*len(p)); i++ {
		p[i/8] ^= byte(turned>>(i-first)&1) << (i % 8)
	}
	return p
}

func (w *wire) take() [][]byte {
	l := w[0]
	*w = wire{w[1], w[2], w[3]}
	return l
}

// far is the other end of a client's link: it tells of a game that goes on, mostly what is so.
type far struct {
	*link.Link
	g     rules.Game
	o     int
	state rules.State
	told  rules.State // what the client should know
	bytes [][]byte    // of odd frames
}

// says sends a message of any sort.
func (x *far) says(rolls *rand.Rand) {
	m := step(x.told, x.o)
	switch n := rolls.Intn(40); {
	case n < 3 || x.told == (rules.State{}):
		x.told = x.state
		m = full(x.told, x.o)
	case n == 3: // a gap
		x.state, _ = x.g.Step(x.state, nil)
		x.told = x.state
		m = step(x.told, x.o)
	case n == 4:
		m.Delta.Hash++
		m.Delta.Tick++
		m.Tick++
	case n == 5: // what it knows already
	case n == 6:
		m = at2(m, x.told.Tick-uint32(rolls.Intn(4)))
	case n == 7:
		m = full(x.state, x.o)
		m.Delta.Hash--
	case n == 8:
		m = full(x.state, x.o)
		m.Delta.Places, m.Delta.Cells = m.Delta.Places[1:], m.Delta.Cells[1:]
	case n == 9:
		b, _ := board.New(make([]board.Cell, rolls.Intn(49))...)
		m = full(at(rules.State{Board: b}, x.state.Tick), x.o)
	case n == 10:
		x.Send([]byte{byte(rolls.Intn(9)), byte(rolls.Intn(2))}[:rolls.Intn(3)])
		return
	case n == 11:
		m = full(at(x.state, []uint32{0, 3, last - 9, last - 3, last}[rolls.Intn(5)]), x.o)
	default:
		if rolls.Intn(8) == 0 { // others move, too
			x.state, _ = x.g.Step(x.state, []uint32{uint32(rolls.Intn(10)), uint32(rolls.Intn(10)), 1})
		} else {
			x.state, _ = x.g.Step(x.state, nil)
		}
		x.told = x.state
		m = step(x.told, x.o)
	}
	x.Send(m.Bytes())
}

// at2 answers a message at another tick.
func at2(m frame.Message, tick uint32) frame.Message {
	m.Tick, m.Delta.Tick = tick, tick
	return m
}

// odd answers a frame that no link sends.
func (x *far) odd(rolls *rand.Rand) []byte {
	f := frame.Frame{Epoch: x.Epoch(), Seq: x.Acks().Next + order.Seq(rolls.Intn(70)) - 30}
	f.Ack.Next = order.Seq(rolls.Intn(10))
	f.First, f.Last = rolls.Intn(2) == 0, rolls.Intn(2) == 0
	f.Data = make([]byte, []int{0, 1, 9, 64}[rolls.Intn(4)])
	switch rolls.Intn(6) {
	case 0:
		f.Epoch += uint16(rolls.Intn(3)) - 1
	case 1:
		return make([]byte, rolls.Intn(30))
	}
	return f.Bytes()
}

// games are those of the long rows: mostly such as are Right.
func games(rolls *rand.Rand) rules.Game {
	players := 1 + rolls.Intn(4)
	g := game(players+rolls.Intn(3), players)
	if rolls.Intn(3) == 0 { // a cell that is shown at each third tick
		g.Code = append(g.Code,
			code.Code{Op: code.Mod, A: 6, B: 4, C: 3}, code.Code{Op: code.Branch, A: 6, N: int32(len(g.Code)) + 3},
			code.Code{Op: code.Stop}, code.Code{Op: code.Reveal, B: 7, N: int32(players) + 1, Mask: 3})
	}
	if rolls.Intn(8) == 0 {
		g.Moves, g.Default = 1, 0
	}
	return g
}

// does answers what one does: mostly it stays, and moves.
func does(rolls *rand.Rand) Act {
	a := Act{Join: rolls.Intn(60) == 0, Leave: rolls.Intn(90) == 0, Move: -1}
	switch rolls.Intn(12) {
	case 0, 1, 2, 3, 4:
		a.Move = rolls.Intn(10)
	case 5:
		a.Move = []int{10, 11, 255, last, last + 1, last + 4, math.MaxInt}[rolls.Intn(7)]
	case 6:
		a.Move = -1 - rolls.Intn(1000)
	}
	return a
}

func TestItIsAsTheDocumentSays(t *testing.T) {
	errs, was, frames, bad, rolled := map[api.Errno]int{}, [4]int{}, 0, 0, 0
	for seed := range int64(250) {
		rolls := rand.New(rand.NewSource(seed))
		g := games(rolls)
		o := rolls.Intn(4)
		if rolls.Intn(10) == 0 {
			o = observers()[rolls.Intn(15)]
		}
		first := []uint32{0, 0, 3, 1<<31 - 40, last - 60}[rolls.Intn(5)]
		c, s := New(g, o), &said{game: g, o: o}
		x := &far{Link: link.New(0), g: g, o: o, state: started(t, g, first)}
		var to, from wire
		for now := range 250 {
			for range rolls.Intn(2) + rolls.Intn(2) {
				x.says(rolls)
			}
			l := x.Tick(now)
			if rolls.Intn(50) == 0 {
				l = append(l, x.odd(rolls))
			}
			if rolls.Intn(60) > 0 || now < 20 { // else all of it is lost
				to.put(rolls, l)
			}
			a, comes := does(rolls), to.take()
			a.Join = a.Join || now == 5
			out, e := c.Cycle(comes, a)
			want, wrong := s.cycle(comes, a)
			if e != wrong || !slices.EqualFunc(out, want, bytes.Equal) {
				t.Fatalf("%d, %d, %v: % x, %v, not % x, %v", seed, now, a, out, e, want, wrong)
			}
			mustBe(t, seed, c, s.phase, s.known, s.aim, s.bad, s.rolls, s.pending()...)
			mustState(t, seed, c.Shown(), s.shown())
			if c.Epoch() != s.epoch {
				t.Fatalf("%d: the epoch %d, not %d", seed, c.Epoch(), s.epoch)
			}
			if c.Epoch() != x.Epoch() {
				x.Link, x.told = link.New(c.Epoch()), rules.State{}
			}
			from.put(rolls, out)
			for _, p := range from.take() {
				l, _ := x.Take(p)
				for _, q := range l {
					if m, _ := frame.Read(q); m.Kind == api.Resync && rolls.Intn(4) > 0 {
						x.told = x.state
						x.Send(full(x.told, o).Bytes())
					}
				}
			}
			was[c.Phase()]++
			frames += len(out)
			if a.Move >= 0 {
				errs[e]++
			}
		}
		bad, rolled = bad+s.bad, rolled+s.rolls
	}
	for e, least := range map[api.Errno]int{api.OK: 5000, api.ErrArg: 500, api.ErrLate: 20, api.ErrFull: 300, api.ErrState: 5000} {
		if errs[e] < least {
			t.Errorf("%v: %d times alone", e, errs[e])
		}
	}
	for phase, count := range was {
		if count < 3000 {
			t.Errorf("%s: %d times alone", Name(byte(phase)), count)
		}
	}
	if frames < 20000 || bad < 5000 || rolled < 2000 {
		t.Errorf("%d frames, %d bad, %d rolls: too few tell nothing", frames, bad, rolled)
	}
}

// P17.3, P5, P6, P7: beside a referee, over wires that lose frames

// seat is a client, and the wires to it and from it; and the moves that it knows it made.
type seat struct {
	*Client
	to, from wire
	moves    map[uint32]uint32
}

// act lets the client do a, and holds what it knows and shows to what there was.
func (x *seat) act(t *testing.T, g rules.Game, o int, comes [][]byte, a Act, past []rules.State) [][]byte {
	t.Helper()
	out, e := x.Cycle(comes, a)
	known := x.Known()
	switch x.Phase() {
	case Joining:
		mustState(t, "Joining", known, rules.State{})
	case Live:
		mustState(t, o, known, past[known.Tick].View(o))
	case Stale:
		t.Fatalf("%d is Stale", o) // nobody tells it what isn't so
	}
	if e == api.OK && a.Move >= 0 {
		x.moves[x.Aim()] = uint32(a.Move)
	}
	pending := x.Pending()
	want := known
	for tick := known.Tick + 1; tick <= min(x.Aim(), known.Tick+16); tick++ {
		move := g.Default
		if slices.Contains(pending, tick) {
			move = x.moves[tick]
		}
		want = g.Predict(want, o, move)
	}
	mustState(t, "Shown", x.Shown(), want)
	mustState(t, "a view", x.Shown().View(o), x.Shown())
	for _, tick := range pending {
		if tick <= known.Tick || tick > x.Aim() {
			t.Fatalf("%d: %v behind the tick %d", o, pending, known.Tick)
		}
	}
	return out
}

// instruction answers one that may be; of registers 5 to 7 are mostly such as all see, so that games go far.
func instruction(rolls *rand.Rand, size, cells, players int) code.Code {
	secret, public := byte(rolls.Intn(5)), byte(5+rolls.Intn(3))
	cell := int32(rolls.Intn(cells))
	return []code.Code{
		{Op: code.Set, A: public, N: int32(rolls.Intn(5)) - 1},
		{Op: code.Clock, A: public},
		{Op: code.Load, A: secret, N: cell},
		{Op: code.Store, A: secret, N: cell},
		{Op: code.Store, A: public, N: cell},
		{Op: code.StoreAt, A: secret, B: public, N: cell / 2},
		{Op: byte(code.Add + rolls.Intn(12)), A: secret, B: byte(rolls.Intn(8)), C: byte(rolls.Intn(8))},
		{Op: code.Branch, A: public, N: int32(rolls.Intn(size + 1))},
		{Op: code.Move, A: secret, N: int32(rolls.Intn(players))},
		{Op: code.Move, A: secret, N: int32(rolls.Intn(players))},
		{Op: code.Reveal, B: public, N: cell / 2, Mask: mask.Mask(rolls.Intn(128))},
		{Op: code.Roll, A: secret, N: 1 + int32(rolls.Intn(6))},
		{Op: code.Shuffle, N: cell, C: byte(1 + rolls.Intn(cells-int(cell)))},
	}[rolls.Intn(13)]
}

// mixed answers a game of all sorts. It may be.
func mixed(rolls *rand.Rand) rules.Game {
	g := rules.Game{Players: 1 + rolls.Intn(4), Moves: uint32(2 + rolls.Intn(5))}
	g.Observers = g.Players + rolls.Intn(3)
	g.Default = uint32(rolls.Intn(int(g.Moves)))
	for range 1 + rolls.Intn(24) {
		seen := mask.Mask(rolls.Uint32()) & g.All()
		switch rolls.Intn(4) {
		case 0:
			seen = 0
		case 1:
			seen = g.All()
		}
		g.Cells = append(g.Cells, board.Cell{Value: int32(rolls.Intn(7)) - 2, Seen: seen})
	}
	size := rolls.Intn(20)
	for range size {
		g.Code = append(g.Code, instruction(rolls, size, len(g.Cells), g.Players))
	}
	return g
}

// TestWhatIsKnownIsSo: whatever becomes of frames, what a client knows is what there was to see; and it comes to rest.
func TestWhatIsKnownIsSo(t *testing.T) {
	var live, bad, rolled, confirmed, played int
	for seed := range int64(80) {
		rolls := rand.New(rand.NewSource(seed))
		g := mixed(rolls)
		delays := []int{rolls.Intn(16), 0, rolls.Intn(5), 0, 0, 0, 0}[:g.Observers]
		r, e := referee.New(g, uint64(seed), []int32{4, 5}, delays)
		if e != api.OK {
			t.Fatal(e)
		}
		past := []rules.State{r.State()}
		seats := make([]seat, g.Observers)
		for o := range seats {
			seats[o] = seat{Client: New(g, o), moves: map[uint32]uint32{}}
		}
		const quiet, end = 200, 300
		for now := range end {
			var in [][][]byte
			for o := range seats {
				x := &seats[o]
				a := Act{Join: x.Phase() == Out && rolls.Intn(5) == 0, Move: rolls.Intn(int(g.Moves)*3) - int(g.Moves)*2}
				if now < quiet {
					a.Join = a.Join || rolls.Intn(100) == 0
					a.Leave = rolls.Intn(100) == 0
				} else if now == quiet { // who fell silent too long isn't told anything any more
					a.Join = true
				}
				tick, wrong := x.Known().Tick, x.Rolls()
				out := x.act(t, g, o, x.to.take(), a, past)
				if x.Phase() == Live {
					live++
					confirmed += int(x.Known().Tick - min(tick, x.Known().Tick))
					rolled += x.Rolls() - wrong
				}
				if now < quiet {
					x.from.put(rolls, out)
				} else {
					x.from[0] = append(x.from[0], out...)
				}
				in = append(in, x.from.take())
			}
			out := r.Cycle(in)
			past = append(past, r.State())
			for o := range seats {
				if now < quiet {
					seats[o].to.put(rolls, out[o])
				} else {
					seats[o].to[0] = append(seats[o].to[0], out[o]...)
				}
				if o < g.Players && r.Moves()[o] != g.Default && r.Moves()[o] == seats[o].moves[r.Tick()] {
					played++
				}
			}
		}
		for o := range seats {
			x := seats[o]
			bad += x.Bad()
			if want := uint32(end - 1 - delays[o]); x.Phase() != Live || x.Known().Tick != want {
				t.Fatalf("%d: %d is %s, and knows the tick %d, not %d", seed, o, Name(x.Phase()), x.Known().Tick, want)
			}
		}
	}
	if live < 20000 || bad < 3000 || rolled < 400 || confirmed < 20000 || played < 2000 {
		t.Errorf("%d times live, %d bad, %d rolls of %d, %d moves in time: too few tell nothing", live, bad, rolled, confirmed, played)
	}
}

// TestMovesAreInTime: over a wire that loses nothing each one counts, and nothing rolls where the others take the default.
func TestMovesAreInTime(t *testing.T) {
	g := game(3, 2)
	r, _ := referee.New(g, 1, nil, nil)
	past := []rules.State{r.State()}
	x := seat{Client: New(g, 1), moves: map[uint32]uint32{}}
	var comes [][]byte
	rolls := rand.New(rand.NewSource(2))
	for now := range 200 {
		a := Act{Join: now == 0, Move: rolls.Intn(20) - 10}
		if now < 2 {
			a.Move = -1
		}
		out := x.act(t, g, 1, comes, a, past)
		comes = r.Cycle([][][]byte{nil, out})[1]
		past = append(past, r.State())
		want, there := x.moves[r.Tick()]
		if !there {
			want = 7
		}
		if !slices.Equal(r.Moves(), []uint32{7, want}) {
			t.Fatalf("at the tick %d: %v, not %d", r.Tick(), r.Moves(), want)
		}
	}
	if x.Rolls() != 0 || x.Bad() != 0 || r.Bad() != 0 || len(x.moves) < 50 {
		t.Errorf("Rolls %d, Bad %d, %d, %d moves", x.Rolls(), x.Bad(), r.Bad(), len(x.moves))
	}
}

// TestItIsSetRight: behind a frame that somebody else wrote it asks for all, and is told it.
func TestItIsSetRight(t *testing.T) {
	g := game(3, 2)
	for _, forged := range []frame.Message{
		step(rules.State{Tick: 4}, 0), step(rules.State{Tick: 30}, 0), hello, {Kind: api.Step, Tick: 1, Delta: delta.Delta{Tick: 1}},
	} {
		r, _ := referee.New(g, 1, nil, nil)
		past := []rules.State{r.State()}
		c := New(g, 0)
		var comes [][]byte
		asked := false
		for now := range 20 {
			if now == 4 { // it takes the place of the Step to the tick 4
				f, _ := frame.Parse(comes[0])
				comes = append([][]byte{short(1, f.Seq, forged)}, comes...)
			}
			out, e := c.Cycle(comes, Act{Join: now == 0, Move: -1})
			if e != api.OK {
				t.Fatal(e)
			}
			if asked = asked || c.Phase() == Stale; c.Phase() >= Live {
				mustState(t, now, c.Known(), past[c.Known().Tick].View(0))
			}
			comes = r.Cycle([][][]byte{out})[0]
			past = append(past, r.State())
		}
		if !asked || c.Phase() != Live || c.Known().Tick != 19 {
			t.Errorf("%v: %v, %s, the tick %d", forged, asked, Name(c.Phase()), c.Known().Tick)
		}
	}
}

// P3: what one may not see one isn't told

// parted tells whether o was shown values that aren't the same.
func parted(a, b []vm.Show, o int) bool {
	for i := range min(len(a), len(b)) {
		if a[i].To.Has(o) && a[i].Value != b[i].Value {
			return true
		}
	}
	return false
}

// TestNothingIsTold: of two games that one sees alike, whatever else is hidden in them, and whatever the others do, its client says, knows and shows the same, till it is shown what isn't.
func TestNothingIsTold(t *testing.T) {
	var alike, known, differ, apart int
	for seed := range int64(150) {
		rolls := rand.New(rand.NewSource(seed))
		g := mixed(rolls)
		o := rolls.Intn(g.Observers)
		var r [2]*referee.Referee
		var seats [2][]seat
		for i := range r {
			hidden := make([]int32, 24)
			for j := range hidden {
				hidden[j] = int32(rolls.Intn(7)) - 2
			}
			r[i], _ = referee.New(g, rolls.Uint64(), hidden, nil)
			for p := range g.Observers {
				seats[i] = append(seats[i], seat{Client: New(g, p)})
			}
		}
		for now := range 60 {
			fate := rolls.Int63() // of the frames to o and from it
			in := [2][][][]byte{}
			for p := range g.Observers {
				a := Act{Join: now == 0 || rolls.Intn(80) == 0, Leave: rolls.Intn(80) == 0, Move: rolls.Intn(int(g.Moves)*2) - int(g.Moves)}
				for i := range r {
					x := &seats[i][p]
					if p != o && a.Move >= 0 {
						a.Move = rolls.Intn(int(g.Moves))
					}
					out, _ := x.Cycle(x.to.take(), a)
					x.from.put(rand.New(rand.NewSource(fate+int64(p))), out)
					in[i] = append(in[i], x.from.take())
				}
			}
			x, y := seats[0][o], seats[1][o]
			if !slices.EqualFunc(in[0][o], in[1][o], bytes.Equal) {
				t.Fatalf("%d, %d: %d says % x, and % x", seed, now, o, in[0][o], in[1][o])
			}
			mustState(t, seed, x.Known(), y.Known())
			mustState(t, seed, x.Shown(), y.Shown())
			mustBe(t, seed, x.Client, y.Phase(), y.Known(), y.Aim(), y.Bad(), y.Rolls(), y.Pending()...)
			alike++
			if x.Phase() == Live {
				known++
			}
			for i := range r {
				for p, l := range r[i].Cycle(in[i]) {
					seats[i][p].to.put(rand.New(rand.NewSource(fate+100+int64(p))), l)
				}
			}
			if parted(r[0].Outcome().Shows, r[1].Outcome().Shows, o) {
				apart++
				break
			}
			if r[0].State().Board != r[1].State().Board {
				differ++
			}
		}
	}
	if alike < 4000 || known < 2500 || differ < 2000 || apart < 10 {
		t.Errorf("%d cycles, %d of them live, %d with other boards, %d apart: too few tell nothing", alike, known, differ, apart)
	}
}

// The rules of memory, and objects

// TestNothingThatIsHandedInIsKept writes over all of it, up to its spare room.
func TestNothingThatIsHandedInIsKept(t *testing.T) {
	g := game(3, 2)
	cells := append(make([]board.Cell, 0, 40), g.Cells...)
	l := append(make([]code.Code, 0, 40), g.Code...)
	g.Cells, g.Code = cells, l
	wantCells, wantCode := slices.Clone(cells[:40]), slices.Clone(l[:40])
	c, other := New(g, 0), New(game(3, 2), 0)
	if !slices.Equal(cells[:40], wantCells) || !slices.Equal(l[:40], wantCode) {
		t.Fatal("what is handed in is changed")
	}
	for i := range cells[:40] {
		cells[:40][i].Seen = math.MaxUint32
	}
	for i := range l[:40] {
		l[:40][i].Op = 255
	}
	r, _ := referee.New(game(3, 2), 1, nil, nil)
	var comes [][]byte
	for now := range 30 {
		var in [][]byte
		for _, p := range comes {
			in = append(in, append(make([]byte, 0, len(p)+10), p...))
		}
		if now%4 == 3 { // so that what comes behind it is kept till its turn
			in, comes = nil, nil
		}
		a := Act{Join: now == 0, Move: now%5 - 2}
		got, e := c.Cycle(in, a)
		want, wrong := other.Cycle(comes, a)
		for i, p := range in {
			if !bytes.Equal(p, comes[i]) {
				t.Fatal("what is handed in is changed")
			}
			for j := range p[:cap(p)] {
				p[:cap(p)][j] ^= 0xee
			}
		}
		clear(in)
		if e != wrong || !slices.EqualFunc(got, want, bytes.Equal) {
			t.Fatalf("the Cycle %d: % x, %v, not % x, %v", now, got, e, want, wrong)
		}
		mustBe(t, now, c, other.Phase(), other.Known(), other.Aim(), other.Bad(), other.Rolls(), other.Pending()...)
		mustState(t, now, c.Shown(), other.Shown())
		comes = r.Cycle([][][]byte{want})[0]
	}
	if c.Phase() != Live || c.Known().Tick < 20 {
		t.Error(c.Phase(), c.Known().Tick)
	}
}

// TestAnswersShareNoMemory writes over answers, up to their spare room, and asks again.
func TestAnswersShareNoMemory(t *testing.T) {
	g := game(3, 2)
	s := started(t, g, 5)
	c, other := New(g, 0), New(g, 0)
	for now := range 20 {
		var comes [][]byte
		if now == 1 {
			comes = [][]byte{short(1, 0, full(s, 0))}
		}
		a := Act{Join: now == 0, Move: now%3 - 1}
		got, _ := c.Cycle(comes, a)
		want, _ := other.Cycle(comes, a) // nothing is answered: all is sent again
		if !slices.EqualFunc(got, want, bytes.Equal) {
			t.Fatalf("the Cycle %d: % x, not % x", now, got, want)
		}
		for _, p := range got {
			for i := range p[:cap(p)] {
				p[:cap(p)][i] ^= 0xee
			}
		}
		clear(got[:cap(got)])
		pending := c.Pending()
		for i := range pending[:cap(pending)] {
			pending[:cap(pending)][i] = 99
		}
		if !slices.Equal(c.Pending(), other.Pending()) || c.Shown() != other.Shown() {
			t.Fatalf("the Cycle %d: %v, not %v", now, c.Pending(), other.Pending())
		}
	}
	if len(c.Pending()) < 5 {
		t.Error(c.Pending())
	}
}

// TestClientsHangOnThemselvesAlone: two of one game go each its own way.
func TestClientsHangOnThemselvesAlone(t *testing.T) {
	g := game(3, 2)
	s := started(t, g, 5)
	x, y := lives(t, g, 0, s), lives(t, g, 0, s)
	x.does(Act{Move: 3}, input(11, 3))
	x.Cycle([][]byte{{1}}, none)
	x.hears(step(at(s, 6), 0))
	mustBe(t, "the other one", y.Client, Live, s.View(0), 0, 0, 0)
	x.does(join, hello)
	y.does(Act{Move: 4}, input(11, 4))
	mustBe(t, "the one", x.Client, Joining, rules.State{}, 0, 1, 1)
	mustBe(t, "the other one", y.Client, Live, s.View(0), 11, 0, 0, 11)
	if x.Epoch() != 2 || y.Epoch() != 1 {
		t.Error(x.Epoch(), y.Epoch())
	}
}

// TestAskingChangesNothing: the same is answered again.
func TestAskingChangesNothing(t *testing.T) {
	g := game(3, 2)
	s := started(t, g, 5)
	x := lives(t, g, 0, s)
	x.does(Act{Move: 3}, input(11, 3))
	shown := x.Shown()
	for range 3 {
		mustBe(t, "asked", x.Client, Live, s.View(0), 11, 0, 0, 11)
		mustState(t, "asked", x.Shown(), shown)
		if x.Epoch() != 1 {
			t.Error(x.Epoch())
		}
	}
}
