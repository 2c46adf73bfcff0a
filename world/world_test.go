package world

import (
	"bytes"
	"math"
	"math/rand"
	"slices"
	"testing"

	"hoodwink/api"
	"hoodwink/board"
	"hoodwink/client"
	"hoodwink/code"
	"hoodwink/delta"
	"hoodwink/dice"
	"hoodwink/frame"
	"hoodwink/link"
	"hoodwink/mask"
	"hoodwink/order"
	"hoodwink/referee"
	"hoodwink/rules"
	"hoodwink/vm"
	"hoodwink/wire"
)

// game answers one of so many observers and players, with ten moves, of which 7 is the default. Each player's move is stored in a cell for it alone, the tick in one that all see; behind these are a cell that nobody sees, which is rolled, and one for 0 alone.
func game(observers, players int) rules.Game {
	g := rules.Game{Observers: observers, Players: players, Moves: 10, Default: 7}
	for player := range players {
		g.Cells = append(g.Cells, board.Cell{Value: -1, Seen: mask.Of(player)})
		g.Code = append(g.Code, code.Code{Op: code.Move, A: 1, N: int32(player)}, code.Code{Op: code.Store, A: 1, N: int32(player)})
	}
	g.Cells = append(g.Cells, board.Cell{Value: -2, Seen: g.All()}, board.Cell{Value: 50}, board.Cell{Value: 60, Seen: 1})
	g.Code = append(g.Code,
		code.Code{Op: code.Clock, A: 2}, code.Code{Op: code.Store, A: 2, N: int32(players)},
		code.Code{Op: code.Roll, A: 3, N: 1000}, code.Code{Op: code.Store, A: 3, N: int32(players) + 1})
	return g
}

// wrong are games that aren't Right, each in one thing alone.
func wrong() []rules.Game {
	all := []rules.Game{{}}
	for _, change := range []func(g *rules.Game){
		func(g *rules.Game) { g.Observers = 1 },
		func(g *rules.Game) { g.Observers = 0 },
		func(g *rules.Game) { g.Observers = -1 },
		func(g *rules.Game) { g.Observers = 33 },
		func(g *rules.Game) { g.Observers, g.Players = math.MaxInt, math.MaxInt },
		func(g *rules.Game) { g.Observers, g.Players = math.MinInt, math.MinInt },
		func(g *rules.Game) { g.Players, g.Code = 0, nil },
		func(g *rules.Game) { g.Observers, g.Players = 9, 7 },
		func(g *rules.Game) { g.Moves = 7 },
		func(g *rules.Game) { g.Moves, g.Default = 0, 0 },
		func(g *rules.Game) { g.Cells = make([]board.Cell, 49) },
		func(g *rules.Game) { g.Cells[3].Seen = 8 },
		func(g *rules.Game) { g.Code[0].N = 2 },
		func(g *rules.Game) { g.Code[1].N = 5 },
		func(g *rules.Game) { g.Code[1].Op = 26 },
	} {
		g := game(3, 2)
		change(&g)
		all = append(all, g)
	}
	return all
}

// noObservers are such as no game of so many has.
func noObservers(observers int) []int {
	return []int{observers, observers + 1, 33, 63, 64, 256, math.MaxInt32, 1 << 32, math.MaxInt, -1, -2, -32, math.MinInt32, math.MinInt}
}

// made answers a world.
func made(t *testing.T, g rules.Game, delays ...int) *World {
	t.Helper()
	w, e := New(Config{Game: g, Seed: 1, Delays: delays})
	if e != api.OK {
		t.Fatal(e)
	}
	return w
}

// joined answers a world of which all clients are Live. Nobody has a delay.
func joined(t *testing.T, g rules.Game) *World {
	t.Helper()
	w := made(t, g)
	mustCycle(t, w, Join(g), make([]api.Errno, g.Observers)...)
	mustCycle(t, w, Quiet(g), make([]api.Errno, g.Observers)...)
	mustPhase(t, "all have joined", w, slices.Repeat([]byte{client.Live}, g.Observers)...)
	return w
}

// does answers a turn in which o alone does something.
func does(g rules.Game, o int, a client.Act) Turn {
	turn := Quiet(g)
	turn.Acts[o] = a
	return turn
}

// how answers faults, each with no more than how.
func how(l ...byte) []wire.Fault {
	var all []wire.Fault
	for _, n := range l {
		all = append(all, wire.Fault{How: n})
	}
	return all
}

// mustCycle holds a cycle to the clients' errors.
func mustCycle(t *testing.T, w *World, turn Turn, want ...api.Errno) {
	t.Helper()
	if got := w.Cycle(turn); !slices.Equal(got, want) {
		t.Fatalf("at the tick %d: %v, not %v", w.Tick(), got, want)
	}
}

// mustPhase holds the clients to their phases.
func mustPhase(t *testing.T, what any, w *World, want ...byte) {
	t.Helper()
	for o, phase := range want {
		if got := w.Client(o).Phase(); got != phase {
			t.Fatalf("%v, at the tick %d: %d is %s, not %s", what, w.Tick(), o, client.Name(got), client.Name(phase))
		}
	}
}

// mustKnow holds the clients to the ticks that they know.
func mustKnow(t *testing.T, what any, w *World, want ...uint32) {
	t.Helper()
	for o, tick := range want {
		if got := w.Client(o).Known().Tick; got != tick {
			t.Fatalf("%v, at the tick %d: %d knows the tick %d, not %d", what, w.Tick(), o, got, tick)
		}
	}
}

// same holds frames against one another.
func same(a, b [][]byte) bool { return slices.EqualFunc(a, b, bytes.Equal) }

// mustFrames holds frames to those that they should be.
func mustFrames(t *testing.T, what any, got, want [][]byte) {
	t.Helper()
	if !same(got, want) {
		t.Fatalf("%v: % x, not % x", what, got, want)
	}
}

// P19.1: New

func TestTheExample(t *testing.T) {
	g := game(3, 2)
	w, e := New(Config{Game: g})
	if e != api.OK {
		t.Fatal(e)
	}
	for _, turn := range []Turn{Join(g), Quiet(g), Quiet(g)} {
		w.Cycle(turn)
	}
	mustPhase(t, "the example", w, client.Live, client.Live, client.Live)
}

func TestANewWorld(t *testing.T) {
	for _, g := range []rules.Game{game(1, 1), game(3, 2), game(6, 6), game(32, 6)} {
		for _, c := range []Config{
			{Game: g},
			{Game: g, Seed: 1, Hidden: []int32{77}, Delays: []int{3}},
			{Game: g, Seed: math.MaxUint64, Hidden: []int32{7, 8}, Delays: make([]int, 50)},
		} {
			w, e := New(c)
			if e != api.OK {
				t.Fatal(e)
			}
			want, _ := g.Start(c.Seed, c.Hidden)
			r := w.Referee()
			if r.State() != want || w.Tick() != 0 || w.Waiting() != 0 || r.Live() != 0 || len(r.Moves()) != 0 {
				t.Fatalf("%v, %d, %d", r.State(), w.Tick(), w.Waiting())
			}
			for o := range g.Observers {
				x := w.Client(o)
				if x == nil || x.Phase() != client.Out || x.Epoch() != 0 || x.Known() != (rules.State{}) || r.Epoch(o) != 0 {
					t.Fatalf("%d of %d", o, g.Observers)
				}
				mustFrames(t, o, w.Sent(o), nil)
				mustFrames(t, o, w.Came(o), nil)
			}
			for _, o := range noObservers(g.Observers) {
				if w.Client(o) != nil {
					t.Fatalf("%d of %d", o, g.Observers)
				}
			}
		}
	}
}

func TestGamesThatAreNotRight(t *testing.T) {
	for i, g := range wrong() {
		for _, c := range []Config{{Game: g}, {Game: g, Seed: 1, Hidden: []int32{1}, Delays: []int{1, 2, 3}}} {
			if w, e := New(c); w != nil || e != api.ErrForm {
				t.Errorf("%d: %v, %v", i, w, e)
			}
		}
	}
}

// TestSeedsAndHiddenValues are the referee's, and no client's.
func TestSeedsAndHiddenValues(t *testing.T) {
	g := game(3, 2)
	w, _ := New(Config{Game: g, Seed: 5, Hidden: []int32{77, 78}})
	if c, _ := w.Referee().State().Board.At(3); c != (board.Cell{Value: 77}) || w.Referee().State().Dice != (dice.Dice{State: 5}) {
		t.Errorf("%v", w.Referee().State())
	}
	s := w.Referee().State()
	w.Cycle(Join(g))
	w.Cycle(Quiet(g))
	s, _ = g.Step(s, nil)
	for o := range 3 {
		if got := w.Client(o).Known(); got != s.View(o) || got.Dice != (dice.Dice{}) {
			t.Errorf("%d: %v, not %v", o, got, s.View(o))
		}
	}
}

// TestDelays: how far behind the referee each one is.
func TestDelays(t *testing.T) {
	for _, x := range []struct {
		delays []int
		want   []uint32
	}{
		{nil, []uint32{0, 0, 0}},
		{[]int{3}, []uint32{3, 0, 0}},
		{[]int{0, 1, 2}, []uint32{0, 1, 2}},
		{[]int{5, 4, 3, 9, -1}, []uint32{5, 4, 3}},
		{[]int{14, 15, 16}, []uint32{14, 15, 15}},
		{[]int{-1, math.MaxInt, math.MinInt}, []uint32{0, 15, 0}},
	} {
		g := game(3, 2)
		w := made(t, g, x.delays...)
		w.Cycle(Join(g))
		for range 40 {
			w.Cycle(Quiet(g))
			for o, delay := range x.want {
				phase, tick := byte(client.Joining), uint32(0)
				if w.Tick() > max(delay, 1) {
					phase, tick = client.Live, w.Tick()-delay-1
				}
				if c := w.Client(o); c.Phase() != phase || c.Known().Tick != tick {
					t.Fatalf("%v, at the tick %d: %d is %s, and knows the tick %d", x, w.Tick(), o, client.Name(c.Phase()), c.Known().Tick)
				}
			}
		}
	}
}

// TestEachClientIsOfItsObserver: it moves for it, and knows its view.
func TestEachClientIsOfItsObserver(t *testing.T) {
	g := game(9, 6)
	w := joined(t, g)
	turn := Quiet(g)
	want := make([]api.Errno, 9)
	for o := range turn.Acts {
		turn.Acts[o].Move = o
		if o >= 6 {
			want[o] = api.ErrState // it is no player
		}
	}
	mustCycle(t, w, turn, want...)
	for w.Tick() < w.Client(0).Aim() {
		w.Cycle(Quiet(g))
	}
	if got := w.Referee().Moves(); !slices.Equal(got, []uint32{0, 1, 2, 3, 4, 5}) {
		t.Fatalf("%v", got)
	}
	s := w.Referee().State()
	w.Cycle(Quiet(g))
	for o := range 9 {
		if got := w.Client(o).Known(); got != s.View(o) {
			t.Errorf("%d: %v, not %v", o, got.Board.Cells(), s.View(o).Board.Cells())
		}
	}
}

// P19.1: Cycle

// TestTheFirstCycles by hand: the Hello comes at once, what the referee says to it a Cycle later.
func TestTheFirstCycles(t *testing.T) {
	g := game(3, 2)
	w := made(t, g)
	mustCycle(t, w, does(g, 1, client.Act{Join: true, Move: -1}), 0, 0, 0)
	mustPhase(t, "Join", w, client.Out, client.Joining, client.Out)
	end := link.New(1) // the referee's own
	end.Take(frame.Frame{Epoch: 1, First: true, Last: true, Data: []byte{1}}.Bytes())
	s, _ := g.Start(1, nil)
	s, _ = g.Step(s, nil)
	end.Send(frame.Message{Kind: api.Snapshot, Tick: 1, Delta: delta.Full(s.Board, 1, 1)}.Bytes())
	first := end.Tick(1)
	mustFrames(t, "Sent", w.Sent(1), first)
	mustFrames(t, "Came", w.Came(1), nil)
	if w.Tick() != 1 || w.Waiting() != len(first) || w.Referee().Live() != 2 || w.Referee().State() != s {
		t.Fatalf("the tick %d, %d wait", w.Tick(), w.Waiting())
	}
	mustCycle(t, w, Quiet(g), 0, 0, 0)
	mustPhase(t, "Quiet", w, client.Out, client.Live, client.Out)
	mustFrames(t, "Came", w.Came(1), first)
	if w.Client(1).Known() != s.View(1) {
		t.Fatalf("%v", w.Client(1).Known())
	}
	end.Take(frame.Frame{Epoch: 1, Ack: order.Acks{Next: order.Seq(len(first))}, Alone: true}.Bytes())
	s, came := g.Step(s, nil)
	end.Send(frame.Message{Kind: api.Step, Tick: 2, Delta: delta.Of(s.Board, came.Touched, 1, 2)}.Bytes())
	second := end.Tick(2)
	mustFrames(t, "Sent", w.Sent(1), second)
	if w.Tick() != 2 || w.Waiting() != len(second) {
		t.Fatalf("the tick %d, %d wait", w.Tick(), w.Waiting())
	}
	for _, o := range []int{0, 2} {
		mustFrames(t, o, w.Sent(o), nil)
		mustFrames(t, o, w.Came(o), nil)
	}
}

// TestTurnsWithoutActs: nobody does anything, not even a move 0.
func TestTurnsWithoutActs(t *testing.T) {
	g := game(3, 2)
	for _, turn := range []Turn{{}, {Acts: []client.Act{}}, {To: make([][]wire.Fault, 9), From: make([][]wire.Fault, 9)}} {
		w, twin := joined(t, g), joined(t, g)
		for range 20 {
			mustCycle(t, w, turn, 0, 0, 0)
			mustCycle(t, twin, Quiet(g), 0, 0, 0)
			mustBeAlike(t, "without acts", w, twin)
			if w.Client(0).Aim() != 0 || !slices.Equal(w.Referee().Moves(), []uint32{7, 7}) {
				t.Fatal("a move")
			}
		}
	}
}

// TestActsOfSome: those who have none do nothing, and acts of nobody are none.
func TestActsOfSome(t *testing.T) {
	g := game(4, 3)
	for acts := range 8 {
		w := joined(t, g)
		turn := Turn{Acts: slices.Repeat([]client.Act{{Move: 3}}, acts)}
		want := make([]api.Errno, 4)
		if acts > 3 {
			want[3] = api.ErrState
		}
		mustCycle(t, w, turn, want...)
		for o := range 4 {
			var aim uint32
			if o < acts && o < 3 {
				aim = w.Client(o).Known().Tick + client.Lead
			}
			if got := w.Client(o).Aim(); got != aim {
				t.Fatalf("%d acts: %d aims at %d, not %d", acts, o, got, aim)
			}
		}
	}
}

// TestTheZeroActIsAMove, as the client has it.
func TestTheZeroActIsAMove(t *testing.T) {
	g := game(3, 2)
	w := joined(t, g)
	mustCycle(t, w, Turn{Acts: make([]client.Act, 3)}, 0, 0, api.ErrState)
	if w.Client(0).Aim() != 2+client.Lead || w.Client(1).Aim() != 2+client.Lead {
		t.Error(w.Client(0).Aim(), w.Client(1).Aim())
	}
}

// TestErrors are those of each client, in order; the world goes on.
func TestErrors(t *testing.T) {
	g := game(4, 3)
	w := made(t, g)
	mustCycle(t, w, Turn{Acts: []client.Act{{Move: 1}, {Move: -1}, {Join: true, Move: 1}, {Move: -9}}}, api.ErrState, 0, api.ErrState, 0)
	mustCycle(t, w, Join(g), 0, 0, 0, 0)
	mustCycle(t, w, Quiet(g), 0, 0, 0, 0)
	mustCycle(t, w, Turn{Acts: []client.Act{{Move: 10}, {Move: 9}, {Move: math.MaxInt}, {Move: 0}}}, api.ErrArg, 0, api.ErrArg, api.ErrState)
	mustCycle(t, w, Turn{Acts: []client.Act{{Move: -1}, {Leave: true, Move: 9}, {Leave: true, Move: -1}, {Leave: true, Move: math.MinInt}}}, 0, api.ErrState, 0, 0)
	mustPhase(t, "Leave", w, client.Live, client.Out, client.Out, client.Out)
	lost := Quiet(g)
	lost.Acts[0].Move, lost.To = 1, [][]wire.Fault{slices.Repeat(how(wire.Lost), 99)}
	for i := range 12 { // what it knows stays, behind the frames that are on their way
		w.Cycle(lost)
		if i == 0 {
			lost.Acts[0].Move = 2
		}
	}
	mustCycle(t, w, lost, api.ErrFull, 0, 0, 0)
	if w.Tick() != 18 {
		t.Error(w.Tick())
	}
}

// TestFaultsTo of each kind: what is Sent is told whatever becomes of it, and comes as the wire has it.
func TestFaultsTo(t *testing.T) {
	g := game(3, 2)
	for _, x := range []struct {
		f    wire.Fault
		came []int // how many frames, of each Cycle
	}{
		{wire.Fault{}, []int{1, 1, 1, 1}},
		{wire.Fault{How: wire.Lost}, []int{0, 1, 1, 2}}, // it is sent again
		{wire.Fault{How: wire.Twice}, []int{2, 1, 1, 1}},
		{wire.Fault{How: wire.Late}, []int{0, 2, 1, 1}},
		{wire.Fault{How: wire.Later}, []int{0, 1, 2, 1}},
		{wire.Fault{How: wire.Spoilt, At: 3, Mask: 1}, []int{1, 1, 1, 2}},
		{wire.Fault{How: 6}, []int{1, 1, 1, 1}},
		{wire.Fault{How: 255}, []int{1, 1, 1, 1}},
	} {
		for o := range 3 {
			w := joined(t, g)
			turn := Quiet(g)
			turn.To = make([][]wire.Fault, o+1)
			turn.To[o] = []wire.Fault{x.f}
			var sent [][][]byte
			for i, n := range x.came {
				mustCycle(t, w, turn, 0, 0, 0)
				sent = append(sent, w.Sent(o))
				if len(sent[0]) != 1 || i == 0 && len(w.Sent((o+1)%3)) != 1 {
					t.Fatalf("%v: % x", x, sent[0])
				}
				turn = Quiet(g)
				if i == 0 {
					continue
				}
				if n = x.came[i-1]; len(w.Came(o)) != n || len(w.Came((o+1)%3)) != 1 || len(w.Came((o+2)%3)) != 1 {
					t.Fatalf("%v, %d: %d frames came, not %d", x, i, len(w.Came(o)), n)
				}
				if i == 1 && n > 0 {
					want := sent[0][0]
					if x.f.How == wire.Spoilt {
						want = wire.Spoil(want, x.f)
					}
					mustFrames(t, x, w.Came(o), slices.Repeat([][]byte{want}, n))
				}
			}
			if bad := w.Client(o).Bad(); bad != 0 && x.f.How != wire.Spoilt || bad != 1 && x.f.How == wire.Spoilt {
				t.Fatalf("%v: %d are bad", x, bad)
			}
		}
	}
}

// TestFaultsFrom of each kind: when the referee hears a Hello, and how often something bad.
func TestFaultsFrom(t *testing.T) {
	g := game(3, 2)
	for _, x := range []struct {
		f    wire.Fault
		when uint32
		bad  int
	}{
		{wire.Fault{}, 1, 0},
		{wire.Fault{How: wire.Lost}, 4, 0}, // it is sent again
		{wire.Fault{How: wire.Twice}, 1, 0},
		{wire.Fault{How: wire.Late}, 2, 0},
		{wire.Fault{How: wire.Later}, 3, 0},
		{wire.Fault{How: wire.Spoilt, At: 3, Mask: 1}, 4, 1},
		{wire.Fault{How: 6}, 1, 0},
		{wire.Fault{How: 255}, 1, 0},
	} {
		for o := range 3 {
			w := made(t, g)
			turn := Join(g)
			turn.From = make([][]wire.Fault, o+1)
			turn.From[o] = []wire.Fault{x.f}
			for now := uint32(1); now < 9; now++ {
				mustCycle(t, w, turn, 0, 0, 0)
				turn = Quiet(g)
				want := g.All()
				if now < x.when {
					want = g.All() &^ mask.Of(o)
				}
				if got := w.Referee().Live(); got != want {
					t.Fatalf("%v, at the tick %d: %s, not %s", x, now, got.Text(), want.Text())
				}
			}
			if w.Referee().Bad() != x.bad {
				t.Fatalf("%v: %d are bad", x, w.Referee().Bad())
			}
		}
	}
}

// TestFaultsAreOfTheirTurn, wire and place: others come.
func TestFaultsAreOfTheirTurn(t *testing.T) {
	g := game(3, 2)
	g.Cells = append(g.Cells, slices.Repeat([]board.Cell{{Seen: 7}}, 30)...) // so that a Snapshot takes more frames
	w := made(t, g)
	turn := Join(g)
	turn.To = [][]wire.Fault{nil, how(wire.Comes, wire.Late), how(wire.Lost), how(wire.Lost)}
	turn.From = [][]wire.Fault{nil, nil, nil, how(wire.Lost)}
	mustCycle(t, w, turn, 0, 0, 0)
	n := len(w.Sent(0))
	if n < 3 || len(w.Sent(1)) != n || len(w.Sent(2)) != n || w.Waiting() != 3*n-1 || w.Referee().Live() != 7 {
		t.Fatalf("%d frames, %d wait", n, w.Waiting())
	}
	sent := w.Sent(1)
	all, first := w.Sent(0), w.Sent(2)
	mustCycle(t, w, Quiet(g), 0, 0, 0)
	mustFrames(t, "all", w.Came(0), all)
	mustFrames(t, "without the second", w.Came(1), slices.Concat(sent[:1], sent[2:]))
	mustFrames(t, "without the first", w.Came(2), first[1:])
	mustPhase(t, "all, and parts", w, client.Live, client.Joining, client.Joining)
	mustCycle(t, w, Quiet(g), 0, 0, 0)
	if got := w.Came(1); len(got) < 2 || !bytes.Equal(got[0], sent[1]) {
		t.Fatalf("% x, not first % x", got, sent[1])
	}
	mustPhase(t, "the second", w, client.Live, client.Live, client.Joining)
}

// TestWaiting: those on all wires, to and from.
func TestWaiting(t *testing.T) {
	g := game(3, 2)
	w := made(t, g)
	late := slices.Repeat(how(wire.Later), 9)
	turn := Join(g)
	turn.From = [][]wire.Fault{late, nil, how(wire.Twice)}
	turn.To = [][]wire.Fault{nil, late, how(wire.Twice)}
	mustCycle(t, w, turn, 0, 0, 0)
	sent := len(w.Sent(1))
	if want := 1 + sent + len(w.Sent(2)) + 1; w.Waiting() != want || len(w.Sent(0)) != 0 {
		t.Fatalf("%d wait, not %d", w.Waiting(), want)
	}
	mustCycle(t, w, Quiet(g), 0, 0, 0)
	if want := 1 + sent + len(w.Sent(1)) + len(w.Sent(2)); w.Waiting() != want || len(w.Sent(0)) != 0 {
		t.Fatalf("%d wait, not %d", w.Waiting(), want)
	}
	mustCycle(t, w, Quiet(g), 0, 0, 0)
	if want := sent + len(w.Sent(0)) + len(w.Sent(1)) + len(w.Sent(2)); w.Waiting() != want || len(w.Sent(0)) == 0 {
		t.Fatalf("%d wait, not %d", w.Waiting(), want)
	}
	for range 3 {
		mustCycle(t, w, Quiet(g), 0, 0, 0)
	}
	if want := len(w.Sent(0)) + len(w.Sent(1)) + len(w.Sent(2)); w.Waiting() != want {
		t.Fatalf("%d wait, not %d", w.Waiting(), want)
	}
	mustPhase(t, "all came", w, client.Live, client.Live, client.Live)
	lost := Quiet(g)
	lost.To = slices.Repeat([][]wire.Fault{slices.Repeat(how(wire.Lost), 99)}, 3)
	lost.From = lost.To
	for range 5 {
		mustCycle(t, w, lost, 0, 0, 0)
		if w.Waiting() != 0 {
			t.Fatalf("%d wait", w.Waiting())
		}
	}
}

// TestLargeGames: all join, and know all that they may.
func TestLargeGames(t *testing.T) {
	for _, g := range []rules.Game{game(1, 1), game(32, 6), game(6, 6), game(32, 1)} {
		w := joined(t, g)
		for range 30 {
			mustCycle(t, w, Quiet(g), make([]api.Errno, g.Observers)...)
		}
		mustKnow(t, g.Observers, w, slices.Repeat([]uint32{31}, g.Observers)...)
		if w.Referee().Live() != g.All() {
			t.Error(w.Referee().Live().Text())
		}
	}
}

// P19.2

// TestOfTheLastCycle: Sent and Came are of it alone.
func TestOfTheLastCycle(t *testing.T) {
	g := game(3, 2)
	w := joined(t, g)
	var last [][][]byte
	for o := range 3 {
		last = append(last, w.Sent(o))
	}
	for range 20 {
		mustCycle(t, w, Quiet(g), 0, 0, 0)
		for o := range 3 {
			mustFrames(t, o, w.Came(o), last[o])
			sent := w.Sent(o)
			if len(sent) != 1 || bytes.Equal(sent[0], last[o][0]) {
				t.Fatalf("%d: % x", o, sent)
			}
			last[o] = sent
		}
	}
	mustCycle(t, w, Turn{Acts: slices.Repeat([]client.Act{{Leave: true, Move: -1}}, 3)}, 0, 0, 0)
	for range 9 {
		mustCycle(t, w, Quiet(g), 0, 0, 0)
	}
	for o := range 3 { // nobody has anything to say any more
		mustFrames(t, o, w.Sent(o), nil)
		mustFrames(t, o, w.Came(o), nil)
	}
	if w.Waiting() != 0 || w.Referee().Live() != 0 {
		t.Error(w.Waiting(), w.Referee().Live().Text())
	}
}

// TestTheirOwn: the referee and the clients are the same each time, and what is done with them is done in the world.
func TestTheirOwn(t *testing.T) {
	g := game(3, 2)
	w := made(t, g)
	r, c := w.Referee(), w.Client(1)
	mustCycle(t, w, Join(g), 0, 0, 0)
	if w.Referee() != r || w.Client(1) != c || w.Client(0) == c || r.Tick() != 1 || c.Phase() != client.Joining {
		t.Fatal("others")
	}
	r.Cycle(nil)
	r.Cycle(nil)
	if w.Tick() != 3 {
		t.Fatal(w.Tick())
	}
	c.Cycle(nil, client.Act{Leave: true, Move: -1})
	mustCycle(t, w, Quiet(g), 0, 0, 0)
	mustPhase(t, "Leave", w, client.Live, client.Out, client.Live)
	if w.Tick() != 4 {
		t.Fatal(w.Tick())
	}
}

func TestQuietAndJoin(t *testing.T) {
	for _, g := range []rules.Game{game(1, 1), game(3, 2), game(32, 6), {Observers: 5, Players: 1, Moves: 1}} {
		for _, join := range []bool{false, true} {
			turn := Quiet(g)
			if join {
				turn = Join(g)
			}
			want := slices.Repeat([]client.Act{{Join: join, Move: -1}}, g.Observers)
			if !slices.Equal(turn.Acts, want) || len(turn.To) != 0 || len(turn.From) != 0 {
				t.Fatalf("%v, not %v", turn, want)
			}
		}
	}
	for i, g := range wrong() {
		for _, turn := range []Turn{Quiet(g), Join(g)} {
			if len(turn.Acts) != 0 || len(turn.To) != 0 || len(turn.From) != 0 {
				t.Fatalf("%d: %v", i, turn)
			}
		}
	}
}

// TestTurnsAreTheirOwn: a change of one changes no other.
func TestTurnsAreTheirOwn(t *testing.T) {
	g := game(3, 2)
	for _, turn := range []func(rules.Game) Turn{Quiet, Join} {
		a, b := turn(g), turn(g)
		a.Acts[1].Move, a.Acts[2].Leave = 5, true
		a.Acts = append(a.Acts, client.Act{Move: 9})
		for _, x := range append(b.Acts, turn(g).Acts...) {
			if x.Move >= 0 || x.Leave {
				t.Fatalf("%v", x)
			}
		}
	}
}

func TestObserversThatThereAreNot(t *testing.T) {
	for _, g := range []rules.Game{game(1, 1), game(3, 2), game(32, 6)} {
		w := joined(t, g)
		w.Cycle(Quiet(g))
		for _, o := range noObservers(g.Observers) {
			if w.Client(o) != nil || len(w.Sent(o)) != 0 || len(w.Came(o)) != 0 {
				t.Fatalf("%d of %d", o, g.Observers)
			}
		}
	}
}

func TestANilWorld(t *testing.T) {
	var w *World
	g := game(3, 2)
	for _, turn := range []Turn{{}, Quiet(g), Join(g), {To: [][]wire.Fault{how(1)}, From: [][]wire.Fault{how(1)}}} {
		if l := w.Cycle(turn); len(l) != 0 {
			t.Errorf("%v", l)
		}
	}
	for _, o := range append(noObservers(3), 0, 1, 2) {
		if w.Client(o) != nil || len(w.Sent(o)) != 0 || len(w.Came(o)) != 0 {
			t.Errorf("%d", o)
		}
	}
	if w.Referee() != nil || w.Tick() != 0 || w.Waiting() != 0 {
		t.Error(w.Referee(), w.Tick(), w.Waiting())
	}
}

func TestAZeroWorldDoesNotPanic(t *testing.T) {
	w := new(World)
	w.Cycle(Join(game(3, 2)))
	for _, o := range append(noObservers(3), 0) {
		w.Client(o).Phase()
		w.Sent(o)
		w.Came(o)
	}
	w.Referee().Tick()
	w.Tick()
	w.Waiting()
}

// P19.1 and P19.2, against the document's words

// way is a wire as the document has it: frames by the Take that they wait for.
type way struct {
	now   int
	takes map[int][][]byte
}

func (x *way) put(l [][]byte, faults [][]wire.Fault, o int) {
	for i, p := range l {
		var f wire.Fault
		if o < len(faults) && i < len(faults[o]) {
			f = faults[o][i]
		}
		at := x.now
		switch f.How {
		case 1:
			continue
		case 2:
			x.takes[at] = append(x.takes[at], bytes.Clone(p))
		case 3:
			at++
		case 4:
			p = wire.Spoil(p, f)
		case 5:
			at += 2
		}
		x.takes[at] = append(x.takes[at], bytes.Clone(p))
	}
}

func (x *way) take() [][]byte {
	l := x.takes[x.now]
	delete(x.takes, x.now)
	x.now++
	return l
}

func (x *way) waiting() int {
	n := 0
	for _, l := range x.takes {
		n += len(l)
	}
	return n
}

// said is a world as the document has it.
type said struct {
	referee    *referee.Referee
	clients    []*client.Client
	to, from   []way
	sent, came [][][]byte
}

func saying(t *testing.T, c Config) *said {
	t.Helper()
	r, e := referee.New(c.Game, c.Seed, c.Hidden, c.Delays)
	if e != api.OK {
		t.Fatal(e)
	}
	s := &said{referee: r, sent: make([][][]byte, c.Game.Observers)}
	for o := range c.Game.Observers {
		s.clients = append(s.clients, client.New(c.Game, o))
		s.to = append(s.to, way{takes: map[int][][]byte{}})
		s.from = append(s.from, way{takes: map[int][][]byte{}})
	}
	return s
}

func (s *said) cycle(t Turn) []api.Errno {
	s.came = nil
	var errs []api.Errno
	for o, c := range s.clients {
		a := client.Act{Move: -1}
		if o < len(t.Acts) {
			a = t.Acts[o]
		}
		came := s.to[o].take()
		out, e := c.Cycle(came, a)
		s.from[o].put(out, t.From, o)
		s.came, errs = append(s.came, came), append(errs, e)
	}
	var in [][][]byte
	for o := range s.from {
		in = append(in, s.from[o].take())
	}
	s.sent = s.referee.Cycle(in)
	for o, l := range s.sent {
		s.to[o].put(l, t.To, o)
	}
	return errs
}

func (s *said) waiting() int {
	n := 0
	for o := range s.to {
		n += s.to[o].waiting() + s.from[o].waiting()
	}
	return n
}

// tells is all that a client tells.
type tells struct {
	known, shown rules.State
	pending      [api.Ring]uint32
	pendings     int
	rolls, bad   int
	aim          uint32
	epoch        uint16
	phase        byte
}

func told(c *client.Client) tells {
	x := tells{known: c.Known(), shown: c.Shown(), rolls: c.Rolls(), bad: c.Bad(), aim: c.Aim(), epoch: c.Epoch(), phase: c.Phase()}
	x.pendings = copy(x.pending[:], c.Pending())
	return x
}

// keeps is all that a referee tells, but for its moves and outcome.
type keeps struct {
	state rules.State
	tick  uint32
	live  mask.Mask
	bad   int
	epoch [api.MaxObs]uint16
	sent  [api.MaxObs]uint32
}

func kept(r *referee.Referee) keeps {
	x := keeps{state: r.State(), tick: r.Tick(), live: r.Live(), bad: r.Bad()}
	for o := range api.MaxObs {
		x.epoch[o], x.sent[o] = r.Epoch(o), r.Sent(o)
	}
	return x
}

// mustKeep holds a referee against another one.
func mustKeep(t *testing.T, what any, r, other *referee.Referee) {
	t.Helper()
	a, b := r.Outcome(), other.Outcome()
	if x, y := kept(r), kept(other); x != y || !slices.Equal(r.Moves(), other.Moves()) ||
		a.Touched != b.Touched || a.Err != b.Err || !slices.Equal(a.Shows, b.Shows) {
		t.Fatalf("%v: %v, %v, and %v, %v", what, x, a, y, b)
	}
}

// mustBeSaid holds a world to one as the document has it.
func mustBeSaid(t *testing.T, what any, w *World, s *said) {
	t.Helper()
	for o, c := range s.clients {
		if got, want := told(w.Client(o)), told(c); got != want {
			t.Fatalf("%v: %d: %v, not %v", what, o, got, want)
		}
		mustFrames(t, what, w.Sent(o), s.sent[o])
		mustFrames(t, what, w.Came(o), s.came[o])
	}
	mustKeep(t, what, w.Referee(), s.referee)
	if w.Tick() != s.referee.Tick() || w.Waiting() != s.waiting() {
		t.Fatalf("%v: the tick %d, %d wait, not %d, %d", what, w.Tick(), w.Waiting(), s.referee.Tick(), s.waiting())
	}
}

// mustBeAlike holds worlds of one game against one another.
func mustBeAlike(t *testing.T, what any, a, b *World) {
	t.Helper()
	n := 0
	for a.Client(n) != nil || b.Client(n) != nil {
		if x, y := told(a.Client(n)), told(b.Client(n)); x != y {
			t.Fatalf("%v: %d: %v, and %v", what, n, x, y)
		}
		mustFrames(t, what, a.Sent(n), b.Sent(n))
		mustFrames(t, what, a.Came(n), b.Came(n))
		n++
	}
	mustKeep(t, what, a.Referee(), b.Referee())
	if a.Tick() != b.Tick() || a.Waiting() != b.Waiting() {
		t.Fatalf("%v: the tick %d, %d wait, and %d, %d", what, a.Tick(), a.Waiting(), b.Tick(), b.Waiting())
	}
}

// instruction answers one that may be; of registers 5 to 7 are mostly such as all see, so that games go far.
func instruction(rolls *rand.Rand, size, cells, players int) code.Code {
	secret, public := byte(rolls.Intn(5)), byte(5+rolls.Intn(3))
	cell := int32(rolls.Intn(cells))
	return []code.Code{
		{Op: code.Set, A: public, N: int32(rolls.Intn(5)) - 1},
		{Op: code.Clock, A: public},
		{Op: code.Load, A: secret, N: cell},
		{Op: code.Store, A: secret, N: cell},
		{Op: code.Store, A: public, N: cell},
		{Op: code.StoreAt, A: secret, B: public, N: cell / 2},
		{Op: byte(code.Add + rolls.Intn(12)), A: secret, B: byte(rolls.Intn(8)), C: byte(rolls.Intn(8))},
		{Op: code.Branch, A: public, N: int32(rolls.Intn(size + 1))},
		{Op: code.Move, A: secret, N: int32(rolls.Intn(players))},
		{Op: code.Move, A: secret, N: int32(rolls.Intn(players))},
		{Op: code.Reveal, B: public, N: cell / 2, Mask: mask.Mask(rolls.Intn(128))},
		{Op: code.Roll, A: secret, N: 1 + int32(rolls.Intn(6))},
		{Op: code.Shuffle, N: cell, C: byte(1 + rolls.Intn(cells-int(cell)))},
	}[rolls.Intn(13)]
}

// mixed answers a game of all sorts. It may be.
func mixed(rolls *rand.Rand) rules.Game {
	g := rules.Game{Players: 1 + rolls.Intn(4), Moves: uint32(2 + rolls.Intn(5))}
	g.Observers = g.Players + rolls.Intn(3)
	g.Default = uint32(rolls.Intn(int(g.Moves)))
	for range 1 + rolls.Intn(24) {
		seen := mask.Mask(rolls.Uint32()) & g.All()
		switch rolls.Intn(4) {
		case 0:
			seen = 0
		case 1:
			seen = g.All()
		}
		g.Cells = append(g.Cells, board.Cell{Value: int32(rolls.Intn(7)) - 2, Seen: seen})
	}
	size := rolls.Intn(20)
	for range size {
		g.Code = append(g.Code, instruction(rolls, size, len(g.Cells), g.Players))
	}
	return g
}

// begun answers how a mixed game begins.
func begun(rolls *rand.Rand, g rules.Game) Config {
	c := Config{Game: g, Seed: rolls.Uint64()}
	for range rolls.Intn(20) {
		c.Hidden = append(c.Hidden, int32(rolls.Intn(7))-2)
	}
	for range rolls.Intn(g.Observers + 2) {
		c.Delays = append(c.Delays, rolls.Intn(20)-2)
	}
	return c
}

// act answers one of all sorts, most of them without more than a move.
func anAct(rolls *rand.Rand, g rules.Game) client.Act {
	a := client.Act{Join: rolls.Intn(60) == 0, Leave: rolls.Intn(100) == 0, Move: rolls.Intn(int(g.Moves)*3) - int(g.Moves)*2}
	switch rolls.Intn(80) {
	case 0:
		a.Move = math.MaxInt
	case 1:
		a.Move = math.MinInt
	case 2:
		a.Move = int(g.Moves)
	}
	return a
}

// aFault answers one of all sorts; so many of a hundred are none.
func aFault(rolls *rand.Rand, good int) wire.Fault {
	if rolls.Intn(100) < good {
		return wire.Fault{}
	}
	return wire.Fault{How: byte(rolls.Intn(8)), At: uint16(rolls.Uint32()), Mask: rolls.Uint32() >> rolls.Intn(32)}
}

// someFaults answers lists of faults, of some observers, for some frames.
func someFaults(rolls *rand.Rand, g rules.Game, good int) [][]wire.Fault {
	var all [][]wire.Fault
	for range rolls.Intn(g.Observers + 3) {
		var l []wire.Fault
		for range rolls.Intn(9) {
			l = append(l, aFault(rolls, good))
		}
		all = append(all, l)
	}
	return all
}

// aTurn answers one of all sorts, in which not all lists have all places.
func aTurn(rolls *rand.Rand, g rules.Game, good int) Turn {
	turn := Turn{To: someFaults(rolls, g, good), From: someFaults(rolls, g, good)}
	n := g.Observers
	if rolls.Intn(4) == 0 {
		n = rolls.Intn(g.Observers + 3)
	}
	for range n {
		turn.Acts = append(turn.Acts, anAct(rolls, g))
	}
	return turn
}

func TestItIsAsTheDocumentSays(t *testing.T) {
	errs := map[api.Errno]int{}
	var live, frames, bad int
	for seed := range int64(80) {
		rolls := rand.New(rand.NewSource(seed))
		c := begun(rolls, mixed(rolls))
		w, e := New(c)
		if e != api.OK {
			t.Fatal(e)
		}
		s := saying(t, c)
		for now := range 150 {
			turn := aTurn(rolls, c.Game, 60)
			if now%50 > 35 { // so that one aims as far ahead as may be
				turn.To = slices.Repeat([][]wire.Fault{slices.Repeat(how(wire.Lost), 60)}, c.Game.Observers)
				for o := range turn.Acts {
					turn.Acts[o] = client.Act{Move: rolls.Intn(int(c.Game.Moves))}
				}
			}
			if now == 0 || rolls.Intn(60) == 0 {
				turn.Acts = Join(c.Game).Acts
			}
			got, want := w.Cycle(turn), s.cycle(turn)
			if !slices.Equal(got, want) {
				t.Fatalf("%d, %d: %v, not %v", seed, now, got, want)
			}
			mustBeSaid(t, []any{seed, now}, w, s)
			for o, e := range got {
				errs[e]++
				frames += len(w.Came(o))
				if w.Client(o).Phase() == client.Live {
					live++
				}
			}
		}
		for o := range c.Game.Observers {
			bad += w.Client(o).Bad()
		}
		bad += w.Referee().Bad()
	}
	for e, least := range map[api.Errno]int{api.OK: 20000, api.ErrArg: 200, api.ErrFull: 100, api.ErrState: 2000} {
		if errs[e] < least {
			t.Errorf("%v: %d times alone", e, errs[e])
		}
	}
	if live < 15000 || frames < 15000 || bad < 3000 {
		t.Errorf("%d times live, %d frames, %d bad: too few tell nothing", live, frames, bad)
	}
}

// P19.3, P3: who may not see something is told nothing of it

// parted tells whether o was shown values that aren't the same.
func parted(a, b []vm.Show, o int) bool {
	for i := range min(len(a), len(b)) {
		if a[i].To.Has(o) && a[i].Value != b[i].Value {
			return true
		}
	}
	return false
}

// twin answers a world that is alike for o at first: all that it doesn't see is another.
func twin(rolls *rand.Rand, c Config, o int) Config {
	c.Seed, c.Hidden = rolls.Uint64(), nil
	for range rolls.Intn(24) {
		c.Hidden = append(c.Hidden, int32(rolls.Intn(7))-2)
	}
	c.Game.Cells = slices.Clone(c.Game.Cells)
	for i := range c.Game.Cells {
		if x := &c.Game.Cells[i]; !x.Seen.Has(o) {
			x.Value = int32(rolls.Uint32())
		}
	}
	return c
}

// TestNothingIsTold: in the same turns, whatever they are, Sent is the same, and so is all that the client comes to know, till o is shown what isn't.
func TestNothingIsTold(t *testing.T) {
	var live, differ, apart, delayed int
	for seed := range int64(150) {
		rolls := rand.New(rand.NewSource(seed))
		g := mixed(rolls)
		o := rolls.Intn(g.Observers)
		c := begun(rolls, g)
		a, e := New(c)
		b, f := New(twin(rolls, c, o))
		if e != api.OK || f != api.OK {
			t.Fatal(e, f)
		}
		delay := delayOf(c, o)
		until := uint32(math.MaxUint32) // it is told of a Show when its delay has gone
		for now := range uint32(120) {
			turn := aTurn(rolls, g, 85)
			if now == 0 {
				turn.Acts = Join(g).Acts
			}
			x, y := a.Cycle(turn), b.Cycle(turn)
			if parted(a.Referee().Outcome().Shows, b.Referee().Outcome().Shows, o) {
				until = min(until, a.Tick()+delay)
			}
			if a.Tick() >= until {
				apart++
				break
			}
			if until != math.MaxUint32 {
				delayed++
			}
			mustFrames(t, []any{seed, now}, a.Sent(o), b.Sent(o))
			mustFrames(t, []any{seed, now}, a.Came(o), b.Came(o))
			if x[o] != y[o] || told(a.Client(o)) != told(b.Client(o)) {
				t.Fatalf("%d, %d: %v, %v, and %v, %v", seed, now, x[o], told(a.Client(o)), y[o], told(b.Client(o)))
			}
			if a.Client(o).Phase() == client.Live {
				live++
			}
			if a.Referee().State().Board != b.Referee().State().Board {
				differ++
			}
		}
	}
	if live < 5000 || differ < 8000 || apart < 10 || delayed < 30 {
		t.Errorf("%d times live, %d other boards, %d apart, %d behind a delay: too few tell nothing", live, differ, apart, delayed)
	}
}

// TestWhenASecretIsShown: cell 0 is hidden, and shown to 1 at the tick 9: from then on 1 is told another than in the twin, and 0 never is; 2, which is told it late, not before its delay has gone.
func TestWhenASecretIsShown(t *testing.T) {
	g := rules.Game{Observers: 3, Players: 1, Moves: 2, Cells: []board.Cell{{}, {Seen: 7}}, Code: []code.Code{
		{Op: code.Clock, A: 1}, {Op: code.Set, A: 2, N: 9}, {Op: code.Xor, A: 3, B: 1, C: 2}, {Op: code.Branch, A: 3, N: 5},
		{Op: code.Stop}, {Op: code.Reveal, B: 7, N: 0, Mask: 6},
	}}
	a, _ := New(Config{Game: g, Hidden: []int32{5}, Delays: []int{0, 0, 4}})
	b, _ := New(Config{Game: g, Hidden: []int32{6}, Delays: []int{0, 0, 4}})
	turn := Join(g)
	for now := uint32(1); now < 20; now++ {
		a.Cycle(turn)
		b.Cycle(turn)
		turn = Quiet(g)
		for o, want := range []bool{false, now >= 9, now >= 13} {
			if got := !same(a.Sent(o), b.Sent(o)); got != want {
				t.Fatalf("at the tick %d: %d is told another: %v", now, o, got)
			}
		}
	}
	for o, want := range []int32{0, 5, 5} {
		if c, _ := a.Client(o).Known().Board.At(0); c != (board.Cell{Value: want, Seen: 6}) {
			t.Errorf("%d: %v", o, c)
		}
	}
}

// TestHowManyAndWhenHangOnNothingHidden: a hand of cards is dealt to each player each tick; the frames to one have the same lengths at the same time whatever is dealt, and whatever the others do.
func TestHowManyAndWhenHangOnNothingHidden(t *testing.T) {
	g := rules.Game{Observers: 3, Players: 3, Moves: 100}
	for o := range 3 {
		for range 4 {
			g.Cells = append(g.Cells, board.Cell{Value: int32(len(g.Cells)), Seen: mask.Of(o)})
		}
	}
	g.Cells = append(g.Cells, slices.Repeat([]board.Cell{{}}, 3)...)
	g.Code = []code.Code{{Op: code.Shuffle, N: 0, C: 12}}
	for o := range int32(3) {
		g.Code = append(g.Code, code.Code{Op: code.Move, A: 1, N: o}, code.Code{Op: code.Store, A: 1, N: 12 + o})
	}
	var worlds []*World
	for seed := range uint64(8) {
		w, e := New(Config{Game: g, Seed: seed})
		if e != api.OK {
			t.Fatal(e)
		}
		worlds = append(worlds, w)
	}
	for now := range 60 {
		turn := Join(g)
		if now > 0 {
			turn = Quiet(g)
		}
		for i, w := range worlds {
			if now > 2 {
				for o := range turn.Acts {
					turn.Acts[o].Move = (i*37 + now*o) % 100
				}
			}
			w.Cycle(turn)
			for o := range 3 {
				got, want := w.Sent(o), worlds[0].Sent(o)
				if !slices.EqualFunc(got, want, func(a, b []byte) bool { return len(a) == len(b) }) {
					t.Fatalf("%d, %d: %d is sent % x, not as long as % x", i, now, o, got, want)
				}
			}
		}
	}
}

// P19.3, P5: what a client knows of a tick is what the referee's state at that tick is to it

// lossy answers faults of which some spoil up to 32 bits in a row; the promise holds for all of these.
func lossy(rolls *rand.Rand, g rules.Game, good int) Turn {
	turn := Quiet(g)
	for o := range turn.Acts {
		turn.Acts[o] = anAct(rolls, g)
		var to, from []wire.Fault
		for range 40 {
			to, from = append(to, aFault(rolls, good)), append(from, aFault(rolls, good))
		}
		turn.To, turn.From = append(turn.To, to), append(turn.From, from)
	}
	return turn
}

// mustKnowWhatIs holds each client that is Live or Stale to the past, and answers how many are.
func mustKnowWhatIs(t *testing.T, what any, w *World, past []rules.State) int {
	t.Helper()
	n := 0
	for o := 0; w.Client(o) != nil; o++ {
		if c := w.Client(o); c.Phase() == client.Live || c.Phase() == client.Stale {
			n++
			if tick := c.Known().Tick; tick >= uint32(len(past)) || c.Known() != past[tick].View(o) {
				t.Fatalf("%v, at the tick %d: %d knows of the tick %d %v", what, w.Tick(), o, tick, c.Known().Board.Cells())
			}
		}
	}
	return n
}

// delayOf answers how far behind the referee o is told something.
func delayOf(c Config, o int) uint32 {
	if o >= len(c.Delays) {
		return 0
	}
	return uint32(min(15, max(0, c.Delays[o])))
}

// TestWhatIsKnownIsSo, and it comes to rest: whatever became of frames, all that join once nothing is lost any more know what is.
func TestWhatIsKnownIsSo(t *testing.T) {
	var live, bad, rolled int
	slowest := 0
	for seed := range int64(100) {
		rolls := rand.New(rand.NewSource(seed))
		c := begun(rolls, mixed(rolls))
		g := c.Game
		w, e := New(c)
		if e != api.OK {
			t.Fatal(e)
		}
		past := []rules.State{w.Referee().State()}
		cycle := func(turn Turn) {
			w.Cycle(turn)
			past = append(past, w.Referee().State())
			live += mustKnowWhatIs(t, seed, w, past)
		}
		cycle(Join(g))
		good := rolls.Intn(90)
		for range 150 {
			cycle(lossy(rolls, g, good))
		}
		cycle(Join(g))
		for n := range 60 {
			cycle(Quiet(g))
			if !rests(w, c) {
				slowest = max(slowest, n+1)
			}
		}
		if !rests(w, c) {
			t.Fatalf("%d: it doesn't come to rest", seed)
		}
		for o := range g.Observers {
			bad += w.Client(o).Bad()
			rolled += w.Client(o).Rolls()
		}
		bad += w.Referee().Bad()
	}
	if slowest > 25 {
		t.Errorf("it comes to rest behind %d cycles", slowest)
	}
	if live < 30000 || bad < 5000 || rolled < 400 {
		t.Errorf("%d times live, %d bad, %d rolls: too few tell nothing", live, bad, rolled)
	}
}

// rests tells whether each client knows the tick of the referee, less its delay and 1.
func rests(w *World, c Config) bool {
	for o := range c.Game.Observers {
		x := w.Client(o)
		if x.Phase() != client.Live || x.Known().Tick != w.Tick()-delayOf(c, o)-1 {
			return false
		}
	}
	return true
}

// TestWhoStaysComesToRest: who has joined, and was heard in time, needn't join anew.
func TestWhoStaysComesToRest(t *testing.T) {
	slowest, behind := 0, 0
	for seed := range int64(200) {
		rolls := rand.New(rand.NewSource(seed))
		c := begun(rolls, mixed(rolls))
		g := c.Game
		w, _ := New(c)
		past := []rules.State{w.Referee().State()}
		cycle := func(turn Turn) {
			w.Cycle(turn)
			past = append(past, w.Referee().State())
			mustKnowWhatIs(t, seed, w, past)
		}
		turn := lossy(rolls, g, 20)
		for now := range 30 { // less than api.Quiet
			for o := range turn.Acts {
				turn.Acts[o].Join = now == 0 || rolls.Intn(50) == 0
				turn.Acts[o].Leave = false
			}
			cycle(turn)
			turn = lossy(rolls, g, 20)
		}
		if !rests(w, c) {
			behind++
		}
		for n := range 60 {
			turn := Quiet(g)
			for o := range turn.Acts {
				turn.Acts[o].Move = rolls.Intn(int(g.Moves)*2) - int(g.Moves)
			}
			cycle(turn)
			if !rests(w, c) {
				slowest = max(slowest, n+1)
			}
		}
		if !rests(w, c) {
			t.Fatalf("%d: it doesn't come to rest", seed)
		}
	}
	if slowest > 25 || behind < 150 {
		t.Errorf("it comes to rest behind %d cycles; %d of 200 weren't at rest at first", slowest, behind)
	}
}

// TestWideGames: where each step touches all cells, of which there are as many as may be, it comes to rest, too.
func TestWideGames(t *testing.T) {
	g := rules.Game{Observers: 8, Players: 6, Moves: 9, Code: []code.Code{{Op: code.Clock, A: 1}}}
	for i := range int32(api.MaxCells) {
		g.Cells = append(g.Cells, board.Cell{Seen: mask.Mask(i*5) & g.All()})
		g.Code = append(g.Code, code.Code{Op: code.Store, A: 1, N: i})
	}
	for seed := range int64(6) {
		rolls := rand.New(rand.NewSource(seed))
		c := Config{Game: g, Delays: []int{0, 3, 15, 1, 0, 7}}
		w, e := New(c)
		if e != api.OK {
			t.Fatal(e)
		}
		past := []rules.State{w.Referee().State()}
		for now := range 160 {
			turn := lossy(rolls, g, 70)
			if now == 0 || now == 120 {
				turn.Acts = Join(g).Acts
			} else if now > 120 {
				turn.Acts = Quiet(g).Acts
			}
			if now >= 120 {
				turn.To, turn.From = nil, nil
			}
			w.Cycle(turn)
			past = append(past, w.Referee().State())
			mustKnowWhatIs(t, seed, w, past)
			if now >= 140 && !rests(w, c) {
				t.Fatalf("%d: at the tick %d it isn't at rest", seed, w.Tick())
			}
		}
	}
}

// P4, P6: the moves that came in time are those of the game

func TestMovesAreInTime(t *testing.T) {
	g := game(3, 2)
	w := joined(t, g)
	rolls := rand.New(rand.NewSource(3))
	moves := map[uint32][]uint32{}
	at := func(tick uint32) []uint32 {
		if moves[tick] == nil {
			moves[tick] = []uint32{7, 7}
		}
		return moves[tick]
	}
	s := w.Referee().State()
	made := 0
	for range 200 {
		turn := Quiet(g)
		for o := range 2 {
			turn.Acts[o].Move = rolls.Intn(20) - 10
		}
		mustCycle(t, w, turn, 0, 0, 0)
		for o := range 2 {
			if move := turn.Acts[o].Move; move >= 0 {
				at(w.Client(o).Aim())[o] = uint32(move)
				made++
			}
		}
		want := at(w.Tick())
		if s, _ = g.Step(s, want); !slices.Equal(w.Referee().Moves(), want) || w.Referee().State() != s {
			t.Fatalf("at the tick %d: %v, not %v", w.Tick(), w.Referee().Moves(), want)
		}
	}
	if made < 100 || w.Client(0).Rolls() != 0 || w.Client(1).Rolls() != 0 || w.Referee().Bad() != 0 {
		t.Errorf("%d moves, rolls %d, %d, bad %d", made, w.Client(0).Rolls(), w.Client(1).Rolls(), w.Referee().Bad())
	}
}

// The rules of memory, values and objects

// roomy answers a copy of a list with spare room, which holds zeros.
func roomy[T any](l []T) []T { return append(make([]T, 0, len(l)+3), l...) }

// mustBeSpare holds a list's spare room to what it was.
func mustBeSpare[T comparable](t *testing.T, l []T) {
	t.Helper()
	var zero T
	for _, x := range l[len(l):cap(l)] {
		if x != zero {
			t.Fatalf("%v in the spare room", x)
		}
	}
}

// scribble writes over memory up to its spare room.
func scribble(p []byte) {
	p = p[:cap(p)]
	for i := range p {
		p[i] ^= 0xee
	}
}

// TestNothingThatIsHandedInIsKept writes over all of it, up to its spare room.
func TestNothingThatIsHandedInIsKept(t *testing.T) {
	rolls := rand.New(rand.NewSource(4))
	for range 20 {
		c := begun(rolls, mixed(rolls))
		twin, _ := New(c)
		own := c
		own.Game.Cells, own.Game.Code = roomy(c.Game.Cells), roomy(c.Game.Code)
		own.Hidden, own.Delays = roomy(c.Hidden), roomy(c.Delays)
		w, e := New(own)
		if e != api.OK || !rules.Same(own.Game, c.Game) || !slices.Equal(own.Hidden, c.Hidden) || !slices.Equal(own.Delays, c.Delays) {
			t.Fatal("what is handed in is changed")
		}
		mustBeSpare(t, own.Game.Cells)
		mustBeSpare(t, own.Game.Code)
		mustBeSpare(t, own.Hidden)
		mustBeSpare(t, own.Delays)
		for i := range own.Game.Cells[:cap(own.Game.Cells)] {
			own.Game.Cells[:cap(own.Game.Cells)][i] = board.Cell{Value: 99, Seen: math.MaxUint32}
		}
		for i := range own.Game.Code[:cap(own.Game.Code)] {
			own.Game.Code[:cap(own.Game.Code)][i].Op = 255
		}
		for i := range own.Hidden {
			own.Hidden[i] = 99
		}
		for i := range own.Delays {
			own.Delays[i] = 7
		}
		for now := range 60 {
			turn := aTurn(rolls, c.Game, 80)
			if now == 0 {
				turn.Acts = Join(c.Game).Acts
			}
			mine := Turn{Acts: roomy(turn.Acts)}
			for o := range turn.To {
				mine.To = append(mine.To, roomy(turn.To[o]))
			}
			for o := range turn.From {
				mine.From = append(mine.From, roomy(turn.From[o]))
			}
			mine.To, mine.From = roomy(mine.To), roomy(mine.From)
			got, want := w.Cycle(mine), twin.Cycle(turn)
			if !slices.Equal(got, want) || !slices.Equal(mine.Acts, turn.Acts) ||
				!slices.EqualFunc(mine.To, turn.To, slices.Equal) || !slices.EqualFunc(mine.From, turn.From, slices.Equal) {
				t.Fatal("what is handed in is changed")
			}
			mustBeSpare(t, mine.Acts)
			for _, l := range slices.Concat(mine.To, mine.From) {
				mustBeSpare(t, l)
				for i := range l[:cap(l)] {
					l[:cap(l)][i].How = wire.Lost
				}
			}
			for i := range mine.Acts[:cap(mine.Acts)] {
				mine.Acts[:cap(mine.Acts)][i] = client.Act{Leave: true}
			}
			clear(mine.To[:cap(mine.To)])
			clear(mine.From[:cap(mine.From)])
			mustBeAlike(t, now, w, twin)
		}
	}
}

// TestAnswersShareNoMemory writes over answers, up to their spare room: others, and what comes, stay.
func TestAnswersShareNoMemory(t *testing.T) {
	rolls := rand.New(rand.NewSource(5))
	var frames int
	for range 20 {
		c := begun(rolls, mixed(rolls))
		w, _ := New(c)
		twin, _ := New(c)
		for now := range 60 {
			turn := aTurn(rolls, c.Game, 80)
			if now == 0 {
				turn.Acts = Join(c.Game).Acts
			}
			got := w.Cycle(turn)
			want := twin.Cycle(turn)
			if !slices.Equal(got, want) {
				t.Fatalf("%v, not %v", got, want)
			}
			for i := range got[:cap(got)] {
				got[:cap(got)][i] = 99
			}
			for o := range c.Game.Observers {
				for _, ask := range []func(*World) [][]byte{
					func(w *World) [][]byte { return w.Sent(o) },
					func(w *World) [][]byte { return w.Came(o) },
				} {
					first, second := ask(w), ask(w)
					for i, p := range first { // each is its own
						scribble(p)
						if !same(first[i+1:], second[i+1:]) {
							t.Fatal("frames of one answer share memory")
						}
						frames++
					}
					clear(first[:cap(first)])
					mustFrames(t, "behind it", second, ask(twin))
				}
			}
			mustBeAlike(t, now, w, twin)
		}
	}
	if frames < 3000 {
		t.Errorf("%d frames: too few tell nothing", frames)
	}
}

// TestEarlierAnswersStay: what is told later changes none of them.
func TestEarlierAnswersStay(t *testing.T) {
	g := game(3, 2)
	w, twin := made(t, g), made(t, g)
	var answers, copies [][][]byte
	var errs, codes [][]api.Errno
	for now := range 30 {
		turn := Quiet(g)
		if now%10 == 0 {
			turn = Join(g)
		}
		turn.Acts[0].Move = now%4 - 1
		errs, codes = append(errs, w.Cycle(turn)), append(codes, slices.Clone(twin.Cycle(turn)))
		for o := range 3 {
			answers = append(answers, w.Sent(o), w.Came(o))
			for _, l := range [][][]byte{twin.Sent(o), twin.Came(o)} {
				var all [][]byte
				for _, p := range l {
					all = append(all, bytes.Clone(p))
				}
				copies = append(copies, all)
			}
		}
	}
	if !slices.EqualFunc(answers, copies, same) || !slices.EqualFunc(errs, codes, slices.Equal) {
		t.Error("answers have changed")
	}
}

// TestWorldsHangOnThemselvesAlone: two of one game go each its own way, and the same turns make the same of both.
func TestWorldsHangOnThemselvesAlone(t *testing.T) {
	g := game(3, 2)
	w, twin, other := made(t, g), made(t, g), made(t, g)
	rolls := rand.New(rand.NewSource(6))
	for now := range 100 {
		turn := aTurn(rolls, g, 70)
		if now == 0 {
			turn.Acts = Join(g).Acts
		}
		w.Cycle(turn)
		other.Cycle(aTurn(rolls, g, 0))
		twin.Cycle(turn)
		mustBeAlike(t, now, w, twin)
	}
	if w.Waiting() == 0 && w.Client(0).Phase() == client.Out {
		t.Error("nothing went on")
	}
}

// TestAskingChangesNothing: the same is answered again.
func TestAskingChangesNothing(t *testing.T) {
	g := game(3, 2)
	w, twin := made(t, g), made(t, g)
	rolls := rand.New(rand.NewSource(7))
	for now := range 60 {
		turn := aTurn(rolls, g, 70)
		if now == 0 {
			turn.Acts = Join(g).Acts
		}
		w.Cycle(turn)
		twin.Cycle(turn)
		for range 3 {
			for _, o := range append(noObservers(3), 0, 1, 2) {
				w.Sent(o)
				w.Came(o)
				told(w.Client(o))
			}
			kept(w.Referee())
			w.Tick()
			w.Waiting()
			Join(g)
			Quiet(g)
		}
		mustBeAlike(t, now, w, twin)
	}
}
