package referee

import (
	"bytes"
	"math"
	"math/rand"
	"slices"
	"testing"

	"hoodwink/api"
	"hoodwink/board"
	"hoodwink/clip"
	"hoodwink/code"
	"hoodwink/delta"
	"hoodwink/desk"
	"hoodwink/dice"
	"hoodwink/frame"
	"hoodwink/link"
	"hoodwink/mask"
	"hoodwink/order"
	"hoodwink/rules"
	"hoodwink/vm"
	"hoodwink/wax"
)

// The messages of those who have nothing else to say.
var (
	hello  = frame.Message{Kind: api.Hello}
	resync = frame.Message{Kind: api.Resync}
	bye    = frame.Message{Kind: api.Bye}
)

// input answers a move for a tick.
func input(tick, move uint32) frame.Message {
	return frame.Message{Kind: api.Input, Tick: tick, Move: move}
}

// game answers one of so many observers and players, with ten moves, of which 7 is the default. Each player's move is stored in a cell for it alone, the tick in one that all see; behind these are a cell that nobody sees, and one for 0 alone.
func game(observers, players int) rules.Game {
	g := rules.Game{Observers: observers, Players: players, Moves: 10, Default: 7}
	for player := range players {
		g.Cells = append(g.Cells, board.Cell{Value: -1, Seen: mask.Of(player)})
		g.Code = append(g.Code, code.Code{Op: code.Move, A: 1, N: int32(player)}, code.Code{Op: code.Store, A: 1, N: int32(player)})
	}
	g.Cells = append(g.Cells, board.Cell{Value: -2, Seen: g.All()}, board.Cell{Value: 50}, board.Cell{Value: 60, Seen: 1})
	g.Code = append(g.Code, code.Code{Op: code.Clock, A: 2}, code.Code{Op: code.Store, A: 2, N: int32(players)})
	return g
}

// wrong are games that aren't Right, each in one thing alone.
func wrong() []rules.Game {
	all := []rules.Game{{}}
	for _, change := range []func(g *rules.Game){
		func(g *rules.Game) { g.Observers = 1 },
		func(g *rules.Game) { g.Observers = 33 },
		func(g *rules.Game) { g.Observers, g.Players = math.MaxInt, math.MaxInt },
		func(g *rules.Game) { g.Observers, g.Players = math.MinInt, math.MinInt },
		func(g *rules.Game) { g.Players, g.Code = 0, nil },
		func(g *rules.Game) { g.Observers, g.Players = 9, 7 },
		func(g *rules.Game) { g.Moves = 7 },
		func(g *rules.Game) { g.Cells = make([]board.Cell, 49) },
		func(g *rules.Game) { g.Cells[3].Seen = 8 },
		func(g *rules.Game) { g.Code[0].N = 2 },
		func(g *rules.Game) { g.Code[1].N = 5 },
		func(g *rules.Game) { g.Code[1].Op = 26 },
	} {
		g := game(3, 2)
		change(&g)
		all = append(all, g)
	}
	return all
}

// made answers a referee.
func made(t *testing.T, g rules.Game, delays ...int) *Referee {
	t.Helper()
	r, e := New(g, 1, nil, delays)
	if e != api.OK {
		t.Fatal(e)
	}
	return r
}

// short answers a frame that has a message of its own.
func short(epoch uint16, seq order.Seq, m frame.Message) []byte {
	return piece(epoch, seq, clip.Piece{First: true, Last: true, Data: m.Bytes()})
}

// piece answers a frame of a piece.
func piece(epoch uint16, seq order.Seq, x clip.Piece) []byte {
	return frame.Frame{Epoch: epoch, Seq: seq, First: x.First, Last: x.Last, Data: x.Data}.Bytes()
}

// alone answers a frame that is Alone.
func alone(epoch uint16, next order.Seq) []byte {
	return frame.Frame{Epoch: epoch, Ack: order.Acks{Next: next}, Alone: true}.Bytes()
}

// from answers what comes if just one observer sends these frames.
func from(o int, frames ...[]byte) [][][]byte {
	in := make([][][]byte, o+1)
	in[o] = frames
	return in
}

// parsed reads frames.
func parsed(t *testing.T, l [][]byte) []frame.Frame {
	t.Helper()
	var all []frame.Frame
	for _, p := range l {
		f, e := frame.Parse(p)
		if e != api.OK {
			t.Fatalf("% x: %v", p, e)
		}
		all = append(all, f)
	}
	return all
}

// taken answers the messages that frames complete.
func taken(t *testing.T, l *link.Link, frames [][]byte) []frame.Message {
	t.Helper()
	var all []frame.Message
	for _, p := range frames {
		said, e := l.Take(p)
		if e != api.OK {
			t.Fatalf("% x: %v", p, e)
		}
		for _, q := range said {
			m, e := frame.Read(q)
			if e != api.OK {
				t.Fatalf("% x: %v", q, e)
			}
			all = append(all, m)
		}
	}
	return all
}

// table is a referee, and of each observer the other end of its link; nothing is lost between them.
type table struct {
	*Referee
	t    *testing.T
	ends []*link.Link
	past []rules.State // at each tick
}

// seated answers a table at which all have the epoch 1, and nobody has said anything.
func seated(t *testing.T, g rules.Game, delays ...int) *table {
	t.Helper()
	x := &table{Referee: made(t, g, delays...), t: t}
	for range g.Observers {
		x.ends = append(x.ends, link.New(1))
	}
	x.past = append(x.past, x.State())
	return x
}

// say lets o send messages.
func (x *table) say(o int, l ...frame.Message) {
	x.t.Helper()
	for _, m := range l {
		if e := x.ends[o].Send(m.Bytes()); e != api.OK {
			x.t.Fatal(e)
		}
	}
}

// cycle answers what each one is told.
func (x *table) cycle() [][]frame.Message {
	x.t.Helper()
	var in [][][]byte
	for _, end := range x.ends {
		in = append(in, end.Tick(int(x.Tick())))
	}
	out := x.Cycle(in)
	if len(out) != len(x.ends) {
		x.t.Fatalf("%d observers are told something, not %d", len(out), len(x.ends))
	}
	x.past = append(x.past, x.State())
	var all [][]frame.Message
	for o, end := range x.ends {
		all = append(all, taken(x.t, end, out[o]))
	}
	return all
}

// full answers the Snapshot of o's view at a tick.
func (x *table) full(o int, tick uint32) frame.Message {
	return frame.Message{Kind: api.Snapshot, Tick: tick, Delta: delta.Full(x.past[tick].Board, o, tick)}
}

// step answers the Step to a tick. In game's games the moves' cells, and the tick's, are touched.
func (x *table) step(o int, tick uint32, touched uint64) frame.Message {
	return frame.Message{Kind: api.Step, Tick: tick, Delta: delta.Of(x.past[tick].Board, touched, o, tick)}
}

// mustTell holds messages to those that they should be.
func mustTell(t *testing.T, what any, got []frame.Message, want ...frame.Message) {
	t.Helper()
	if !slices.EqualFunc(got, want, frame.Like) {
		t.Fatalf("%v: %v, not %v", what, got, want)
	}
}

// mustBe holds a referee to who is live, and how many were bad.
func mustBe(t *testing.T, what any, r *Referee, live mask.Mask, bad int) {
	t.Helper()
	if r.Live() != live || r.Bad() != bad {
		t.Fatalf("%v, at the tick %d: live %s, bad %d, not %s, %d", what, r.Tick(), r.Live().Text(), r.Bad(), live.Text(), bad)
	}
}

// mustEpoch holds an observer to its epoch, and the tick that it was told last.
func mustEpoch(t *testing.T, what any, r *Referee, o int, epoch uint16, sent uint32) {
	t.Helper()
	if r.Epoch(o) != epoch || r.Sent(o) != sent {
		t.Fatalf("%v, at the tick %d: of %d the epoch %d, sent %d, not %d, %d", what, r.Tick(), o, r.Epoch(o), r.Sent(o), epoch, sent)
	}
}

// quiet holds answers to nothing.
func quiet(t *testing.T, what any, out [][][]byte) {
	t.Helper()
	for o, l := range out {
		if len(l) != 0 {
			t.Fatalf("%v: %d is sent % x", what, o, l)
		}
	}
}

// same holds two outcomes against one another.
func same(a, b rules.Outcome) bool {
	return a.Touched == b.Touched && a.Err == b.Err && slices.Equal(a.Shows, b.Shows)
}

// noObservers are such as no game of so many has.
func noObservers(observers int) []int {
	return []int{observers, observers + 1, 33, 63, 64, 256, math.MaxInt32, 1 << 32, math.MaxInt, -1, -2, -32, math.MinInt32, math.MinInt}
}

// P15.1: New

func TestANewReferee(t *testing.T) {
	g := game(4, 2)
	for _, hidden := range [][]int32{nil, {9}, {9, 8, 7}} {
		for _, seed := range []uint64{0, 1, math.MaxUint64} {
			r, e := New(g, seed, hidden, nil)
			want, _ := g.Start(seed, hidden)
			if e != api.OK || r.State() != want || r.Tick() != 0 || len(r.Moves()) != 0 || !same(r.Outcome(), rules.Outcome{}) {
				t.Fatalf("%v, %v, %v, %v, %v", e, r.State(), r.Tick(), r.Moves(), r.Outcome())
			}
			mustBe(t, "a new one", r, 0, 0)
			for o := range 4 {
				mustEpoch(t, "a new one", r, o, 0, 0)
			}
		}
	}
}

func TestHiddenValues(t *testing.T) {
	r, _ := New(game(3, 2), 5, []int32{77, 78}, nil)
	if c, _ := r.State().Board.At(3); c != (board.Cell{Value: 77}) || r.State().Dice != (dice.Dice{State: 5}) {
		t.Errorf("%v, %v", r.State().Board.Cells(), r.State().Dice)
	}
}

func TestGamesThatAreNotRight(t *testing.T) {
	for i, g := range wrong() {
		for _, delays := range [][]int{nil, {1, 2, 3}} {
			if r, e := New(g, 1, []int32{1}, delays); r != nil || e != api.ErrForm {
				t.Errorf("%d: %v, %v", i, r, e)
			}
		}
	}
}

// TestDelays: of all sorts of delays, when one that joins at once is told something, and what.
func TestDelays(t *testing.T) {
	for _, x := range []struct {
		delays []int
		want   []uint32
	}{
		{nil, []uint32{0, 0, 0}},
		{[]int{3}, []uint32{3, 0, 0}},
		{[]int{0, 1, 2}, []uint32{0, 1, 2}},
		{[]int{5, 4, 3, 9, -1}, []uint32{5, 4, 3}},
		{[]int{14, 15, 16}, []uint32{14, 15, 15}},
		{[]int{17, 31, 32}, []uint32{15, 15, 15}},
		{[]int{-1, -15, -16}, []uint32{0, 0, 0}},
		{[]int{math.MaxInt, math.MinInt, 256}, []uint32{15, 0, 15}},
		{[]int{1 << 32, 1<<32 + 1, math.MaxUint32}, []uint32{15, 15, 15}},
		{[]int{math.MaxInt32, -1 << 32, -1<<32 + 1}, []uint32{15, 0, 0}},
	} {
		r := seated(t, game(3, 2), x.delays...)
		for o := range 3 {
			r.say(o, hello)
		}
		for range 40 {
			told := r.cycle()
			now := r.Tick()
			for o, delay := range x.want {
				var want []frame.Message
				var sent uint32
				switch {
				case now == delay || now == 1 && delay == 0:
					want, sent = []frame.Message{r.full(o, now-delay)}, now-delay
				case now > delay:
					want, sent = []frame.Message{r.step(o, now-delay, 7)}, now-delay
				}
				mustTell(t, x, told[o], want...)
				mustEpoch(t, x, r.Referee, o, 1, sent)
			}
			mustBe(t, x, r.Referee, 7, 0)
		}
	}
}

// TestHowMuchIsKept: no more ticks than the longest delay asks for.
func TestHowMuchIsKept(t *testing.T) {
	for _, x := range []struct {
		delays []int
		most   int
	}{{nil, 1}, {[]int{0, 3, 1}, 4}, {[]int{15}, 16}, {[]int{2, 99}, 16}, {[]int{0, 0, 0, 9}, 1}} {
		r := made(t, game(3, 2), x.delays...)
		for now := range 60 {
			if len(r.last) != min(now+1, x.most) {
				t.Fatalf("%v, at the tick %d: %d are kept", x, now, len(r.last))
			}
			r.Cycle(nil)
		}
	}
}

// P15.2: the game goes on

func TestTheExample(t *testing.T) {
	for _, in := range [][][][]byte{nil, {}, {nil, nil}, {{}, nil, {}}, make([][][]byte, 50)} {
		r := made(t, game(3, 2))
		out := r.Cycle(in)
		if r.Tick() != 1 || len(out) != 3 {
			t.Errorf("Tick %d, %d", r.Tick(), len(out))
		}
		quiet(t, "without frames", out)
		mustBe(t, "without frames", r, 0, 0)
	}
}

// TestItGoesOnWithoutAnybody, on the default alone.
func TestItGoesOnWithoutAnybody(t *testing.T) {
	for seed := range int64(60) {
		rolls := rand.New(rand.NewSource(seed))
		g := mixed(rolls)
		hidden := []int32{5, 6}
		r, e := New(g, uint64(seed), hidden, []int{3, 0, 15})
		if e != api.OK {
			t.Fatal(e)
		}
		s, _ := g.Start(uint64(seed), hidden)
		for now := range uint32(30) {
			quiet(t, seed, r.Cycle(nil))
			var came rules.Outcome
			s, came = g.Step(s, nil)
			if r.State() != s || !same(r.Outcome(), came) || r.Tick() != now+1 || !slices.Equal(r.Moves(), slices.Repeat([]uint32{g.Default}, g.Players)) {
				t.Fatalf("%d: %v, %v, %v, not %v, %v", seed, r.State(), r.Outcome(), r.Moves(), s, came)
			}
		}
	}
}

// TestMovesByHand: those in time count, each for its tick and player.
func TestMovesByHand(t *testing.T) {
	r := seated(t, game(3, 2))
	r.say(0, hello, input(1, 3), input(3, 4))
	r.say(1, hello, input(2, 5), input(9, 6))
	for now, want := range [][]uint32{{3, 7}, {7, 5}, {4, 7}, {7, 7}, {7, 7}, {7, 7}, {7, 7}, {7, 7}, {7, 7}, {7, 8}} {
		r.cycle()
		if now == 1 { // ahead of the tick 3, so that 10 isn't too early; 9 was, ahead of 1
			r.say(1, input(10, 8))
		}
		cells := r.State().Board.Cells()
		if !slices.Equal(r.Moves(), want) || cells[0].Value != int32(want[0]) || cells[1].Value != int32(want[1]) || cells[2].Value != int32(now+1) {
			t.Fatalf("at the tick %d: %v, %v, not %v", now+1, r.Moves(), cells, want)
		}
	}
	if r.Bad() != 1 {
		t.Error(r.Bad())
	}
}

// TestOutcomes: what came of the last step, and of it alone.
func TestOutcomes(t *testing.T) {
	g := game(3, 2)
	g.Code = []code.Code{ // at the tick 2 cell 3 is shown to 1 and 2; at 3 the code fails, behind a Store
		{Op: code.Clock, A: 1}, {Op: code.Set, A: 2, N: 2}, {Op: code.Equal, A: 3, B: 1, C: 2},
		{Op: code.Branch, A: 3, N: 6}, {Op: code.Reveal, N: 3, Mask: 6}, {Op: code.Stop},
		{Op: code.Set, A: 2, N: 3}, {Op: code.Equal, A: 3, B: 1, C: 2}, {Op: code.Branch, A: 3, N: 11},
		{Op: code.Store, A: 1, N: 2}, {Op: code.LoadAt, A: 1, B: 1, N: 4}, {Op: code.Stop},
	}
	r := seated(t, g)
	r.say(1, hello)
	for now, want := range []rules.Outcome{
		{},
		{Touched: 8, Shows: []vm.Show{{Cell: 3, To: 6, Value: 50}}},
		{Err: api.ErrIndex},
		{},
	} {
		told := r.cycle()
		if !same(r.Outcome(), want) || !same(r.Outcome(), want) {
			t.Fatalf("at the tick %d: %v, not %v", now+1, r.Outcome(), want)
		}
		if now > 0 {
			mustTell(t, now+1, told[1], r.step(1, uint32(now+1), want.Touched))
		}
	}
}

// P15.2: epochs

// TestEpochs holds an observer's epoch against that of a frame.
func TestEpochs(t *testing.T) {
	for _, x := range []struct {
		own, comes, want uint16
		bad              int
	}{
		{0, 0, 0, 0}, {0, 1, 1, 0}, {0, 2, 2, 0}, {0, 32767, 32767, 0}, {0, 32768, 32768, 0}, {0, 40000, 40000, 0}, {0, 65535, 65535, 0},
		{1, 0, 1, 1}, {1, 1, 1, 0}, {1, 2, 2, 0}, {1, 3, 3, 0}, {1, 32768, 32768, 0}, {1, 32769, 1, 1}, {1, 32770, 1, 1}, {1, 65535, 1, 1},
		{5, 4, 5, 1}, {5, 6, 6, 0}, {5, 0, 5, 1}, {5, 65535, 5, 1}, {256, 1, 256, 1}, {256, 257, 257, 0}, {256, 0, 256, 1},
		{32768, 0, 32768, 1}, {32769, 0, 32769, 1}, {40000, 0, 40000, 1}, {40000, 1, 1, 0}, {40000, 7231, 7231, 0}, {40000, 7232, 40000, 1},
		{65535, 0, 65535, 1}, {65535, 1, 1, 0}, {65535, 3, 3, 0}, {65535, 65534, 65535, 1}, {65535, 65535, 65535, 0},
	} {
		for _, comes := range [][]byte{short(x.comes, 7, bye), alone(x.comes, 0)} {
			r := made(t, game(3, 2))
			var live mask.Mask
			if x.own != 0 {
				r.Cycle(from(1, short(x.own, 0, hello)))
				live = 2
			}
			mustBe(t, x, r, live, 0)
			mustEpoch(t, x, r, 1, x.own, r.Tick())
			if x.own != x.want {
				live = 0
			}
			r.Cycle(from(1, comes))
			mustBe(t, x, r, live, x.bad)
			if r.Epoch(1) != x.want || r.Epoch(0) != 0 || r.Epoch(2) != 0 {
				t.Fatalf("%v: %d", x, r.Epoch(1))
			}
		}
	}
}

// TestAnObserverWithoutAnEpoch: of frames of the epoch 0 nothing comes, and they aren't bad.
func TestAnObserverWithoutAnEpoch(t *testing.T) {
	r := made(t, game(3, 2))
	for seq := range order.Seq(10) {
		quiet(t, seq, r.Cycle([][][]byte{
			{short(0, seq, hello), alone(0, 0)},
			{short(0, seq, input(uint32(seq)+1, 3)), short(0, seq, frame.Message{Kind: api.Step})},
			{piece(0, seq, clip.Piece{First: true, Last: true, Data: []byte("nothing")})},
		}))
		mustBe(t, seq, r, 0, 0)
		if !slices.Equal(r.Moves(), []uint32{7, 7}) {
			t.Fatal(r.Moves())
		}
		for o := range 3 {
			mustEpoch(t, seq, r, o, 0, 0)
		}
	}
	// and nothing of them is left
	r.Cycle(from(0, short(1, 0, hello)))
	mustBe(t, "an epoch", r, 1, 0)
}

// TestANewEpochIsANewLink: what waits in the old one isn't sent any more, numbers begin anew, and one says Hello anew.
func TestANewEpochIsANewLink(t *testing.T) {
	r := made(t, game(3, 2))
	for range 5 {
		r.Cycle(from(0, short(1, 0, hello)))
	}
	mustBe(t, "the first epoch", r, 1, 0)
	mustEpoch(t, "the first epoch", r, 0, 1, 5)
	out := r.Cycle(from(0, alone(2, 0)))
	quiet(t, "another epoch", out)
	mustBe(t, "another epoch", r, 0, 0)
	mustEpoch(t, "another epoch", r, 0, 2, 5)
	for range 10 {
		quiet(t, "another epoch", r.Cycle(from(0, alone(2, 0))))
	}
	out = r.Cycle(from(0, short(1, 1, hello))) // of the first epoch nothing counts
	quiet(t, "the first epoch again", out)
	mustBe(t, "the first epoch again", r, 0, 1)

	out = r.Cycle(from(0, short(2, 0, hello)))
	for i, f := range parsed(t, out[0]) {
		if f.Epoch != 2 || f.Seq != order.Seq(i) || f.Ack != (order.Acks{Next: 1}) {
			t.Errorf("%d: %v", i, f)
		}
	}
	mustBe(t, "Hello", r, 1, 1)
	mustTell(t, "Hello", taken(t, link.New(2), out[0]), frame.Message{Kind: api.Snapshot, Tick: 18, Delta: delta.Full(r.State().Board, 0, 18)})
}

// TestEpochsInOneCycle: each frame counts for itself, in order.
func TestEpochsInOneCycle(t *testing.T) {
	r := made(t, game(3, 2))
	out := r.Cycle(from(2, short(3, 0, hello), short(2, 0, hello), short(5, 0, bye), short(3, 1, hello), short(5, 1, hello), short(5, 2, resync)))
	mustBe(t, "all", r, 4, 2)
	mustEpoch(t, "all", r, 2, 5, 1)
	mustTell(t, "all", taken(t, link.New(5), out[2]), frame.Message{Kind: api.Snapshot, Tick: 1, Delta: delta.Full(r.State().Board, 2, 1)})
	quiet(t, "others", out[:2])
}

// P15.2: what is bad

func TestFramesThatAreNone(t *testing.T) {
	good := short(1, 0, hello)
	spoilt := slices.Clone(good)
	spoilt[3] ^= 16
	table := wax.Make()
	for i, p := range [][]byte{nil, {}, {1}, {1, 2, 3}, make([]byte, 4), make([]byte, 40), spoilt, good[1:], good[:len(good)-1], append(slices.Clone(good), 0), table.Seal(nil), table.Seal([]byte("hello")), make([]byte, 5000)} {
		if _, e := frame.Parse(p); e == api.OK {
			t.Fatalf("%d is a frame", i)
		}
		r := made(t, game(3, 2))
		for n := range 3 {
			quiet(t, i, r.Cycle([][][]byte{{p}, {p, p}, nil}))
			mustBe(t, i, r, 0, 3*n+3)
		}
		r.Cycle(from(1, p, short(1, 0, hello), p)) // those beside it count
		mustBe(t, i, r, 2, 11)
		mustEpoch(t, i, r, 1, 1, 4)
	}
}

// TestFramesOfNobody: those of observers that there aren't count for nothing.
func TestFramesOfNobody(t *testing.T) {
	r := made(t, game(2, 1))
	in := make([][][]byte, 40)
	for o := 2; o < 40; o++ {
		in[o] = [][]byte{short(1, 0, hello), {1, 2, 3}, short(1, 1, input(1, 3))}
	}
	out := r.Cycle(in)
	if len(out) != 2 {
		t.Fatal(len(out))
	}
	quiet(t, "nobody", out)
	mustBe(t, "nobody", r, 0, 0)
}

// TestMessages: of each one, of one who is live and of one who isn't, who is live then, and whether it was bad.
func TestMessages(t *testing.T) {
	some := delta.Full(board.Board{}, 0, 3)
	for i, x := range []struct {
		p                 []byte
		fromLive, fromOut bool
		bad               int // of one who is live
		badOut            int
	}{
		{hello.Bytes(), true, true, 0, 0},
		{resync.Bytes(), true, false, 0, 0},
		{bye.Bytes(), false, false, 0, 0},
		{input(2, 3).Bytes(), true, false, 0, 0},
		{input(2, 10).Bytes(), true, false, 1, 0},
		{input(1, 3).Bytes(), true, false, 1, 0},
		{frame.Message{Kind: api.Snapshot, Tick: 3, Delta: some}.Bytes(), true, false, 1, 1},
		{frame.Message{Kind: api.Step, Tick: 3, Delta: some}.Bytes(), true, false, 1, 1},
		{nil, true, false, 1, 1},
		{[]byte{0}, true, false, 1, 1},
		{[]byte{7}, true, false, 1, 1},
		{[]byte{255}, true, false, 1, 1},
		{[]byte{api.Hello, 0}, true, false, 1, 1},
		{[]byte{api.Resync, 0}, true, false, 1, 1},
		{[]byte{api.Bye, 0}, true, false, 1, 1},
		{[]byte{api.Input}, true, false, 1, 1},
		{input(2, 3).Bytes()[:8], true, false, 1, 1},
		{append(input(2, 3).Bytes(), 0), true, false, 1, 1},
		{[]byte{api.Step}, true, false, 1, 1},
		{[]byte("what is this"), true, false, 1, 1},
	} {
		said := clip.Piece{First: true, Last: true, Data: x.p}
		for _, live := range []bool{false, true} {
			r := made(t, game(3, 2))
			first, was, bad := bye, x.fromOut, x.badOut
			if live {
				first, was, bad = hello, x.fromLive, x.bad
			}
			r.Cycle(from(1, short(9, 0, first)))
			mustBe(t, i, r, mask.Of(1)&all(live), 0)
			r.Cycle(from(1, piece(9, 1, said)))
			mustBe(t, i, r, mask.Of(1)&all(was), bad)
		}
	}
}

// all answers everybody, or nobody.
func all(so bool) mask.Mask {
	if so {
		return math.MaxUint32
	}
	return 0
}

// TestInputs: which the desk refuses, of a player and of one who is none.
func TestInputs(t *testing.T) {
	for i, x := range []struct {
		o          int
		tick, move uint32
		bad        int
	}{
		{0, 6, 0, 0}, {1, 6, 9, 0}, {1, 13, 9, 0},
		{1, 6, 10, 1}, {1, 6, math.MaxUint32, 1},
		{1, 5, 3, 1}, {1, 4, 3, 1}, {1, 0, 3, 1},
		{1, 14, 3, 1}, {1, 15, 3, 1}, {1, math.MaxUint32, 3, 1},
		{2, 6, 3, 1}, {3, 6, 3, 1},
	} {
		r := made(t, game(4, 2))
		for range 4 {
			r.Cycle(nil)
		}
		r.Cycle(from(x.o, short(1, 0, hello)))
		r.Cycle(from(x.o, short(1, 1, input(x.tick, x.move))))
		mustBe(t, i, r, mask.Of(x.o), x.bad)
		for r.Tick() < x.tick && x.bad == 0 {
			r.Cycle(nil)
		}
		want := []uint32{7, 7}
		if x.bad == 0 {
			want[x.o] = x.move
		}
		if !slices.Equal(r.Moves(), want) {
			t.Errorf("%v: %v, not %v", x, r.Moves(), want)
		}
	}
}

// TestTheFirstMoveStays: another one for the same tick is bad.
func TestTheFirstMoveStays(t *testing.T) {
	r := seated(t, game(3, 2))
	r.say(1, hello, input(2, 3), input(2, 4), input(2, 3))
	r.cycle()
	mustBe(t, "three", r.Referee, 2, 2)
	r.cycle()
	if !slices.Equal(r.Moves(), []uint32{7, 3}) {
		t.Error(r.Moves())
	}
}

// TestMovesStayBehindABye: what came in time counts.
func TestMovesStayBehindABye(t *testing.T) {
	for _, parts := range [][]byte{short(1, 2, bye), short(2, 0, bye)} {
		r := made(t, game(3, 2))
		r.Cycle(from(1, short(1, 0, hello), short(1, 1, input(3, 4)), parts))
		mustBe(t, "gone", r, 0, 0)
		r.Cycle(nil)
		r.Cycle(nil)
		if !slices.Equal(r.Moves(), []uint32{7, 4}) {
			t.Error(r.Moves())
		}
	}
}

// TestMovesOfOneWhoIsNotLive don't count, though they come in time.
func TestMovesOfOneWhoIsNotLive(t *testing.T) {
	r := made(t, game(3, 2))
	r.Cycle(from(0, short(1, 0, input(1, 3)), short(1, 1, input(2, 3)), short(1, 2, hello), short(1, 3, input(3, 3)), short(1, 4, bye), short(1, 5, input(4, 3))))
	mustBe(t, "all of it", r, 0, 0)
	for _, want := range []uint32{7, 7, 3, 7} {
		if r.Moves()[0] != want {
			t.Fatalf("at the tick %d: %v", r.Tick(), r.Moves())
		}
		r.Cycle(nil)
	}
}

// TestPiecesThatTheBasketRefuses aren't bad: their frames are frames, and nothing is said.
func TestPiecesThatTheBasketRefuses(t *testing.T) {
	full := make([]byte, 64)
	r := made(t, game(3, 2))
	r.Cycle(from(1, short(1, 0, hello)))
	for seq, x := range []clip.Piece{
		{Data: full},                     // nothing is begun
		{First: true, Data: []byte{1}},   // not a full one
		{First: true, Data: full},        // it is begun
		{First: true, Data: bye.Bytes()}, // once more
		{Last: true, Data: bye.Bytes()},  // left out
	} {
		r.Cycle(from(1, piece(1, order.Seq(seq+1), x)))
		mustBe(t, seq, r, 2, 0)
	}
	r.Cycle(from(1, short(1, 6, bye)))
	mustBe(t, "a message", r, 0, 0)
}

// TestMessagesOfManyPieces: one that is too long to be said at once is bad once, as it is none.
func TestMessagesOfManyPieces(t *testing.T) {
	end, r := link.New(1), made(t, game(3, 2))
	end.Send(hello.Bytes())
	end.Send(make([]byte, 1000))
	end.Send(input(1, 4).Bytes())
	r.Cycle(from(0, end.Tick(0)...))
	mustBe(t, "three messages", r, 1, 1)
	if r.Moves()[0] != 4 {
		t.Error(r.Moves())
	}
}

// TestOutOfOrder: messages count in the order in which they were sent, once.
func TestOutOfOrder(t *testing.T) {
	r := made(t, game(3, 2))
	frames := [][]byte{short(1, 0, hello), short(1, 1, input(3, 1)), short(1, 2, bye), short(1, 3, input(3, 2)), short(1, 4, hello), short(1, 5, input(4, 3))}
	r.Cycle(from(0, frames[3], frames[5], frames[1], frames[1]))
	mustBe(t, "the first is lacking", r, 0, 0)
	r.Cycle(from(0, frames[0]))
	mustBe(t, "the first two", r, 1, 0)
	r.Cycle(from(0, frames[4], frames[2], frames[2], frames[0]))
	mustBe(t, "all", r, 1, 0)
	if r.Moves()[0] != 1 {
		t.Error(r.Moves())
	}
	r.Cycle(nil)
	if r.Moves()[0] != 3 {
		t.Error(r.Moves())
	}
}

// P15.2: who was heard

// TestQuiet: how long one stays live behind Hello, of a tick at which something comes.
func TestQuiet(t *testing.T) {
	good := short(1, 1, input(0, 0))
	spoilt := slices.Clone(good)
	spoilt[5] ^= 1
	old := short(65535, 0, hello)
	for name, x := range map[string]struct {
		p     []byte
		heard bool
	}{
		"Alone":                     {alone(1, 0), true},
		"Hello once more":           {short(1, 0, hello), true},
		"one far ahead":             {short(1, 33, hello), true},
		"one too far ahead":         {short(1, 34, hello), true},
		"a move":                    {short(1, 1, input(21, 1)), true},
		"a move that is bad":        {good, true},
		"what is no message":        {piece(1, 1, clip.Piece{First: true, Last: true}), true},
		"what the basket refuses":   {piece(1, 1, clip.Piece{Last: true}), true},
		"Resync":                    {short(1, 1, resync), true},
		"what is spoilt":            {spoilt, false},
		"another epoch":             {old, false},
		"the epoch 0":               {short(0, 1, hello), false},
		"nothing":                   {[]byte{}, false},
		"a frame without its start": {good[1:], false},
	} {
		r := made(t, game(3, 2))
		r.Cycle(nil)
		r.Cycle(nil)
		r.Cycle(from(1, short(1, 0, hello)))
		last := uint32(3)
		for r.Tick() < 100 {
			if r.Tick() == 19 {
				r.Cycle(from(1, x.p))
				if x.heard {
					last = 20
				}
			} else {
				r.Cycle(nil)
			}
			if live := r.Tick() <= last+40; (r.Live() == 2) != live || !live && r.Live() != 0 {
				t.Fatalf("%s: at the tick %d live is %s", name, r.Tick(), r.Live().Text())
			}
		}
		mustEpoch(t, name, r, 1, 1, last+40)
	}
}

// TestOneIsHeardJustInTime, again and again: to be heard at the very tick is enough.
func TestOneIsHeardJustInTime(t *testing.T) {
	r := made(t, game(3, 2))
	end := link.New(1)
	taken(t, end, r.Cycle(from(0, short(1, 0, hello)))[0])
	for range 5 {
		for range 40 {
			taken(t, end, r.Cycle(nil)[0])
			mustBe(t, "within 40", r, 1, 0)
		}
		r.Cycle(from(0, frame.Frame{Epoch: 1, Ack: end.Acks(), Alone: true}.Bytes()))
		mustBe(t, "at the 41st", r, 1, 0)
	}
	for range 40 {
		r.Cycle(nil)
		mustBe(t, "within 40", r, 1, 0)
	}
	r.Cycle(nil)
	mustBe(t, "at the 41st", r, 0, 0)
}

// TestHeardBeforeTheDelay: who falls silent before anything is to be told of isn't live either.
func TestHeardBeforeTheDelay(t *testing.T) {
	r := made(t, game(3, 2), 15)
	for range 5 {
		r.Cycle(nil)
	}
	r.Cycle(from(0, short(1, 0, hello), short(1, 1, bye)))
	mustBe(t, "Bye", r, 0, 0)
	for range 20 {
		if out := r.Cycle(nil); len(out[0]) != 0 {
			t.Fatalf("% x", out[0])
		}
	}
	mustEpoch(t, "Bye", r, 0, 1, 0)
}

// TestOneWhoFellSilentComesBack by a Hello, in the same epoch too; a frame alone isn't enough.
func TestOneWhoFellSilentComesBack(t *testing.T) {
	r := made(t, game(3, 2))
	r.Cycle(from(0, short(1, 0, hello)))
	for range 50 {
		r.Cycle(nil)
	}
	mustBe(t, "silent", r, 0, 0)
	mustEpoch(t, "silent", r, 0, 1, 41)
	r.Cycle(from(0, short(1, 1, resync), short(1, 2, input(53, 1)), alone(1, 41)))
	mustBe(t, "Resync", r, 0, 0)
	mustEpoch(t, "Resync", r, 0, 1, 41)
	out := r.Cycle(from(0, short(1, 3, hello)))
	mustBe(t, "Hello", r, 1, 0)
	mustEpoch(t, "Hello", r, 0, 1, 53)
	if r.Moves()[0] != 7 || len(out[0]) != 1 {
		t.Error(r.Moves(), len(out[0]))
	}
}

// P15.2: what one is told

// TestSnapshots: Hello and Resync are answered by one, at any time; else there are Steps.
func TestSnapshots(t *testing.T) {
	for _, delay := range []int{0, 1, 4, 15} {
		r := seated(t, game(3, 2), 2, delay)
		for range 20 {
			r.cycle()
		}
		r.say(1, hello)
		for i := range 60 {
			switch {
			case i%10 == 3:
				r.say(1, hello)
			case i%10 == 7:
				r.say(1, resync, resync)
			}
			told := r.cycle()
			tick := r.Tick() - uint32(delay)
			want := r.step(1, tick, 7)
			if i%10 == 3 || i%10 == 7 || i == 0 {
				want = r.full(1, tick)
			}
			mustTell(t, i, told[1], want)
			mustTell(t, i, told[0])
			mustEpoch(t, i, r.Referee, 1, 1, tick)
		}
		mustBe(t, delay, r.Referee, 2, 0)
	}
}

// TestSnapshotsByHand: of what one sees alone.
func TestSnapshotsByHand(t *testing.T) {
	r := seated(t, game(3, 2))
	for o := range 3 {
		r.say(o, hello)
	}
	r.say(1, input(1, 4), input(2, 5))
	first, second := r.cycle(), r.cycle()
	for o, want := range [][]int32{{7, 0, 1, 0, 60}, {0, 4, 1, 0, 0}, {0, 0, 1, 0, 0}} {
		b, e := first[o][0].Delta.Board()
		if e != api.OK {
			t.Fatal(e)
		}
		var values []int32
		for _, c := range b.Cells() {
			values = append(values, c.Value)
		}
		if !slices.Equal(values, want) {
			t.Errorf("%d: %v, not %v", o, values, want)
		}
		d := second[o][0].Delta
		if !slices.Equal(d.Places, []byte{0, 1, 2}) || d.Tick != 2 || d.Cells[2].Value != 2 {
			t.Errorf("%d: %v", o, d)
		}
		if v := d.Cells[1].Value; v != 5 && o == 1 || v != 0 && o != 1 {
			t.Errorf("%d: %v", o, d)
		}
	}
}

// TestBytesByHand: the frames of one who joins a small game.
func TestBytesByHand(t *testing.T) {
	g := rules.Game{Observers: 2, Players: 1, Moves: 1, Cells: []board.Cell{{Value: 258, Seen: 1}}}
	r := made(t, g)
	out := r.Cycle([][][]byte{{short(7, 0, hello)}, {short(8, 0, hello)}})
	for o, inner := range [][]byte{
		{0x56, 7, 0, 0, 0, 1, 0, 0, 0, 0, 0, 3, 19, 5, 1, 0, 0, 0},
		{0x56, 8, 0, 0, 0, 1, 0, 0, 0, 0, 0, 3, 19, 5, 1, 0, 0, 0},
	} {
		hash := r.State().View(o).Board.Hash()
		inner = append(inner, byte(hash), byte(hash>>8), byte(hash>>16), byte(hash>>24), 1, 0)
		if o == 0 {
			inner = append(inner, 2, 1, 0, 0, 1, 0, 0, 0)
		} else {
			inner = append(inner, 0, 0, 0, 0, 1, 0, 0, 0)
		}
		if want := wax.Make().Seal(inner); len(out[o]) != 1 || !bytes.Equal(out[o][0], want) {
			t.Errorf("%d: % x, not % x", o, out[o], want)
		}
	}
}

// TestByeInOneCycle: messages count in order.
func TestByeInOneCycle(t *testing.T) {
	for i, x := range []struct {
		l    []frame.Message
		live bool
	}{
		{[]frame.Message{hello, bye}, false},
		{[]frame.Message{bye, hello}, true},
		{[]frame.Message{hello, bye, resync}, false},
		{[]frame.Message{hello, bye, hello}, true},
		{[]frame.Message{resync, resync}, false},
		{[]frame.Message{resync, hello, resync}, true},
	} {
		r := seated(t, game(3, 2))
		r.say(2, x.l...)
		told := r.cycle()
		mustBe(t, i, r.Referee, mask.Of(2)&all(x.live), 0)
		if x.live {
			mustTell(t, i, told[2], r.full(2, 1))
			mustEpoch(t, i, r.Referee, 2, 1, 1)
		} else {
			mustTell(t, i, told[2])
			mustEpoch(t, i, r.Referee, 2, 1, 0)
		}
	}
}

// TestWhoIsNotLiveIsAnswered: its link goes on, and so does what flies.
func TestWhoIsNotLiveIsAnswered(t *testing.T) {
	r := made(t, game(3, 2))
	out := r.Cycle(from(1, short(1, 0, hello)))
	first := parsed(t, out[1])
	if len(first) == 0 || first[0].Alone {
		t.Fatal(first)
	}
	out = r.Cycle(from(1, short(1, 1, bye)))
	if l := parsed(t, out[1]); len(l) != 1 || !l[0].Alone || l[0].Ack.Next != 2 {
		t.Fatal(l)
	}
	if out = r.Cycle(nil); len(out[1]) != 0 {
		t.Fatal(parsed(t, out[1]))
	}
	out = r.Cycle(nil) // three ticks behind the first one
	if l := parsed(t, out[1]); len(l) != len(first) || l[0].Seq != 0 || l[0].Ack.Next != 2 || !bytes.Equal(l[0].Data, first[0].Data) {
		t.Fatal(l)
	}
	r.Cycle(from(1, alone(1, order.Seq(len(first)))))
	for range 9 {
		quiet(t, "all has come", r.Cycle(nil))
	}
	mustBe(t, "Bye", r, 0, 0)
}

// TestTicksAreTheLinks: what isn't answered is sent again each three ticks, from the tick on at which it was sent.
func TestTicksAreTheLinks(t *testing.T) {
	r := made(t, game(3, 2))
	for range 7 {
		r.Cycle(nil)
	}
	mirror := link.New(1)
	comes := short(1, 0, hello)
	for now := 8; now < 50; now++ {
		var out [][][]byte
		if now == 8 {
			mirror.Take(comes)
			out = r.Cycle(from(2, comes))
			mirror.Send(frame.Message{Kind: api.Snapshot, Tick: 8, Delta: delta.Full(r.State().Board, 2, 8)}.Bytes())
		} else {
			out = r.Cycle(nil)
			mirror.Send(frame.Message{Kind: api.Step, Tick: uint32(now), Delta: delta.Of(r.State().Board, 7, 2, uint32(now))}.Bytes())
		}
		if want := mirror.Tick(now); !slices.EqualFunc(out[2], want, bytes.Equal) {
			t.Fatalf("at the tick %d: %v, not %v", now, parsed(t, out[2]), parsed(t, want))
		}
	}
}

// wide answers a game of 48 cells, all of which are shuffled at each tick: each message has seven pieces.
func wide() rules.Game {
	return rules.Game{Observers: 2, Players: 1, Moves: 1, Cells: make([]board.Cell, 48), Code: []code.Code{{Op: code.Shuffle, C: 48}}}
}

// TestWhatTheLinkDoesNotSend: who takes nothing in isn't live any more once its link is full.
func TestWhatTheLinkDoesNotSend(t *testing.T) {
	r := made(t, wide(), 0, 3)
	r.Cycle([][][]byte{{short(1, 0, hello)}, {short(1, 0, hello)}})
	for now := uint32(2); now <= 30; now++ {
		r.Cycle([][][]byte{{alone(1, 0)}, {alone(1, 0)}})
		var live mask.Mask
		if now < 23 { // of 22 messages there are 154 pieces: 32 fly, 122 wait
			live = 1
		}
		if now < 25 { // the first one is sent at 3
			live = live.With(1)
		}
		mustBe(t, "nothing comes", r, live, 0)
		mustEpoch(t, "nothing comes", r, 0, 1, min(now, 23))
		mustEpoch(t, "nothing comes", r, 1, 1, min(max(now, 3)-3, 22))
	}

	// what was sent till then comes all the same
	end := link.New(1)
	var told []frame.Message
	for range 40 {
		out := r.Cycle(from(0, end.Tick(int(r.Tick()))...))
		told = append(told, taken(t, end, out[0])...)
	}
	if len(told) != 22 || told[0].Kind != api.Snapshot {
		t.Fatal(len(told))
	}
	for i, m := range told {
		if m.Tick != uint32(i+1) {
			t.Fatalf("%d: %d", i, m.Tick)
		}
	}
	mustBe(t, "all has come", r, 0, 0)

	// and a Hello makes it live again
	r.Cycle(from(0, short(1, 1, hello)))
	mustBe(t, "Hello", r, 1, 0)
	mustEpoch(t, "Hello", r, 0, 1, 71)
}

// TestObserversAreTheirOwn: what one does changes nothing for others.
func TestObserversAreTheirOwn(t *testing.T) {
	r := made(t, game(32, 6))
	var in [][][]byte
	for o := range 32 {
		in = append(in, [][]byte{short(uint16(o+1), 0, hello)})
	}
	out := r.Cycle(in)
	mustBe(t, "all", r, math.MaxUint32, 0)
	for o := range 32 {
		mustEpoch(t, "all", r, o, uint16(o+1), 1)
		mustTell(t, o, taken(t, link.New(uint16(o+1)), out[o]), frame.Message{Kind: api.Snapshot, Tick: 1, Delta: delta.Full(r.State().Board, o, 1)})
	}
	for o := range 32 {
		r.Cycle(from(o, short(uint16(o+1), 1, bye)))
		mustBe(t, o, r, mask.All(32).Less(mask.All(o+1)), 0)
	}
}

// P15.2, P2, P4: against the document's words

// said is a referee as the document tells of it: it keeps all ticks.
type said struct {
	game  rules.Game
	desk  *desk.Desk
	past  []rules.State
	came  []rules.Outcome
	moves []uint32
	bad   int
	all   []*one
}

// one is an observer.
type one struct {
	delay, heard, sent int
	epoch              uint16
	link               *link.Link
	live, wants        bool
}

func saying(g rules.Game, seed uint64, hidden []int32, delays []int) *said {
	first, _ := g.Start(seed, hidden)
	s := &said{game: g, desk: desk.New(g), past: []rules.State{first}, came: make([]rules.Outcome, 1)}
	for o := range g.Observers {
		x := &one{link: link.New(0)}
		if o < len(delays) {
			x.delay = delays[o]
		}
		if x.delay < 0 {
			x.delay = 0
		}
		if x.delay > 15 {
			x.delay = 15
		}
		s.all = append(s.all, x)
	}
	return s
}

func (s *said) take(o, now int, p []byte) {
	x := s.all[o]
	f, e := frame.Parse(p)
	if e != api.OK {
		s.bad++
		return
	}
	further := int(f.Epoch) - int(x.epoch) // how much, where numbers go round
	if further <= -32768 {
		further += 65536
	}
	if further >= 32768 {
		further -= 65536
	}
	if f.Epoch != 0 && (x.epoch == 0 || further > 0) {
		x.epoch, x.link, x.live = f.Epoch, link.New(f.Epoch), false
	}
	if x.epoch == 0 {
		return
	}
	messages, e := x.link.Take(p)
	if e == api.ErrOld {
		s.bad++
		return
	}
	x.heard = now
	for _, p := range messages {
		m, e := frame.Read(p)
		switch {
		case e != api.OK:
			s.bad++
		case m.Kind == api.Hello:
			x.live, x.wants = true, true
		case m.Kind == api.Resync:
			if x.live {
				x.wants = true
			}
		case m.Kind == api.Bye:
			x.live = false
		case m.Kind == api.Input:
			if x.live && s.desk.Put(o, m.Tick, m.Move) != api.OK {
				s.bad++
			}
		default:
			s.bad++
		}
	}
}

func (s *said) tell(o, now int) {
	x := s.all[o]
	if !x.live {
		return
	}
	if now-x.heard > 40 {
		x.live = false
		return
	}
	if now < x.delay {
		return
	}
	t := now - x.delay
	var m frame.Message
	switch {
	case x.wants:
		m = frame.Message{Kind: api.Snapshot, Tick: uint32(t), Delta: delta.Full(s.past[t].Board, o, uint32(t))}
	case x.sent < t:
		m = frame.Message{Kind: api.Step, Tick: uint32(t), Delta: delta.Of(s.past[t].Board, s.came[t].Touched, o, uint32(t))}
	default:
		return
	}
	x.sent, x.wants = t, false
	if x.link.Send(m.Bytes()) != api.OK {
		x.live = false
	}
}

func (s *said) cycle(in [][][]byte) [][][]byte {
	now := len(s.past)
	for o := range s.all {
		if o < len(in) {
			for _, p := range in[o] {
				s.take(o, now, p)
			}
		}
	}
	s.moves = s.desk.Take()
	next, came := s.game.Step(s.past[now-1], s.moves)
	s.past, s.came = append(s.past, next), append(s.came, came)
	for o := range s.all {
		s.tell(o, now)
	}
	var out [][][]byte
	for _, x := range s.all {
		out = append(out, x.link.Tick(now))
	}
	return out
}

func (s *said) live() mask.Mask {
	var m mask.Mask
	for o, x := range s.all {
		if x.live {
			m |= 1 << o
		}
	}
	return m
}

// instruction answers one that may be; of registers 5 to 7 are mostly such as all see, so that games go far.
func instruction(rolls *rand.Rand, size, cells, players int) code.Code {
	secret, public := byte(rolls.Intn(5)), byte(5+rolls.Intn(3))
	if rolls.Intn(40) == 0 {
		secret, public = public, secret
	}
	cell := int32(rolls.Intn(cells))
	return []code.Code{
		{Op: code.Set, A: public, N: int32(rolls.Intn(5)) - 1},
		{Op: code.Clock, A: public},
		{Op: code.Load, A: secret, N: cell},
		{Op: code.Store, A: secret, N: cell},
		{Op: code.Store, A: public, N: cell},
		{Op: code.StoreAt, A: secret, B: public, N: cell / 2},
		{Op: byte(code.Add + rolls.Intn(12)), A: secret, B: byte(rolls.Intn(8)), C: byte(rolls.Intn(8))},
		{Op: code.Branch, A: public, N: int32(rolls.Intn(size + 1))},
		{Op: code.Move, A: secret, N: int32(rolls.Intn(players))},
		{Op: code.Move, A: secret, N: int32(rolls.Intn(players))},
		{Op: code.Reveal, B: public, N: cell / 2, Mask: mask.Mask(rolls.Intn(128))},
		{Op: code.Roll, A: secret, N: 1 + int32(rolls.Intn(6))},
		{Op: code.Shuffle, N: cell, C: byte(1 + rolls.Intn(cells-int(cell)))},
	}[rolls.Intn(13)]
}

// mixed answers a game of all sorts. It may be.
func mixed(rolls *rand.Rand) rules.Game {
	g := rules.Game{Players: 1 + rolls.Intn(4), Moves: uint32(2 + rolls.Intn(5))}
	g.Observers = g.Players + rolls.Intn(3)
	g.Default = uint32(rolls.Intn(int(g.Moves)))
	for range 1 + rolls.Intn(24) {
		seen := mask.Mask(rolls.Uint32()) & g.All()
		switch rolls.Intn(4) {
		case 0:
			seen = 0
		case 1:
			seen = g.All()
		}
		g.Cells = append(g.Cells, board.Cell{Value: int32(rolls.Intn(7)) - 2, Seen: seen})
	}
	size := rolls.Intn(20)
	for range size {
		g.Code = append(g.Code, instruction(rolls, size, len(g.Cells), g.Players))
	}
	return g
}

// far is how far observers get that send frames of all sorts: their epochs, how many messages they sent, and what they know has come to them.
type far struct {
	epoch uint16
	seq   order.Seq
	come  order.Seq
}

// hears notes the frames that were sent.
func (x *far) hears(l [][]byte) {
	for _, p := range l {
		f, _ := frame.Parse(p)
		if f.Epoch == x.epoch && !f.Alone && x.come.To(f.Seq.Add(1)) > 0 {
			x.come = f.Seq.Add(1)
		}
	}
}

// says answers a message of any sort.
func says(rolls *rand.Rand, tick, moves uint32) []byte {
	switch rolls.Intn(16) {
	case 0, 1, 2:
		return hello.Bytes()
	case 3, 4:
		return resync.Bytes()
	case 5:
		return bye.Bytes()
	case 6:
		return []byte{byte(rolls.Intn(9)), 1}[:rolls.Intn(3)]
	case 7:
		return frame.Message{Kind: api.Step, Tick: tick, Delta: delta.Delta{Tick: tick}}.Bytes()
	}
	return input(tick+uint32(rolls.Intn(12))-1, uint32(rolls.Intn(int(moves)+1))).Bytes()
}

// sends answers a frame of any sort, mostly one that counts.
func (x *far) sends(rolls *rand.Rand, tick, moves uint32) []byte {
	f := frame.Frame{Epoch: x.epoch, Seq: x.seq, First: true, Last: true}
	f.Ack.Next = x.come
	switch n := rolls.Intn(60); {
	case n == 0:
		x.epoch += []uint16{1, 2, 100, 32767}[rolls.Intn(4)]
		x.seq, x.come = 0, 0
		f = frame.Frame{Epoch: x.epoch, First: true, Last: true}
	case n == 1:
		f.Epoch += uint16(1+rolls.Intn(65535)) | 32768
	case n == 2:
		f.Epoch = 0
	case n < 6:
		f.Seq += order.Seq(rolls.Intn(40))
	case n < 8:
		f.First = false
	case n < 10:
		f.Last = false
	case n < 20:
		return frame.Frame{Epoch: f.Epoch, Ack: f.Ack, Alone: true}.Bytes()
	case n < 22:
		f.Ack.Bits = rolls.Uint32()
	}
	if f.Seq == x.seq && f.Epoch == x.epoch {
		x.seq++
	}
	f.Data = says(rolls, tick, moves)
	p := f.Bytes()
	switch rolls.Intn(30) {
	case 0:
		p[rolls.Intn(len(p))] ^= 1 << rolls.Intn(8)
	case 1:
		p = p[:rolls.Intn(len(p))]
	}
	return p
}

func TestItIsAsTheDocumentSays(t *testing.T) {
	var frames, bad, live, full int
	for seed := range int64(150) {
		rolls := rand.New(rand.NewSource(seed))
		g := mixed(rolls)
		delays := []int{rolls.Intn(20) - 2, rolls.Intn(4), rolls.Intn(20)}[:rolls.Intn(4)]
		hidden := []int32{4, 5}
		r, e := New(g, uint64(seed), hidden, delays)
		if e != api.OK {
			t.Fatal(e)
		}
		s := saying(g, uint64(seed), hidden, delays)
		ends := make([]far, g.Observers)
		for now := range uint32(200) {
			var in [][][]byte
			for o := range ends {
				var l [][]byte
				for range rolls.Intn(4) * rolls.Intn(2) {
					if now/50%2 == 0 || o%2 == 0 { // some fall silent for a while
						l = append(l, ends[o].sends(rolls, now, g.Moves))
					}
				}
				in = append(in, l)
			}
			in = in[:len(in)-rolls.Intn(2)*rolls.Intn(2)]
			was := s.live()
			got, want := r.Cycle(in), s.cycle(in)
			for o := range want {
				if !slices.EqualFunc(got[o], want[o], bytes.Equal) {
					t.Fatalf("%d at the tick %d: %d is sent % x, not % x", seed, now+1, o, got[o], want[o])
				}
				if rolls.Intn(3) > 0 {
					ends[o].hears(got[o])
				}
				mustEpoch(t, seed, r, o, s.all[o].epoch, uint32(s.all[o].sent))
				frames += len(want[o])
			}
			mustBe(t, seed, r, s.live(), s.bad)
			if r.State() != s.past[now+1] || !same(r.Outcome(), s.came[now+1]) || !slices.Equal(r.Moves(), s.moves) || r.Tick() != now+1 || len(got) != len(want) {
				t.Fatalf("%d at the tick %d: %v, %v, %v", seed, now+1, r.State(), r.Outcome(), r.Moves())
			}
			live += s.live().Count()
			full += was.Less(s.live()).Count()
		}
		bad += s.bad
	}
	if frames < 20000 || bad < 10000 || live < 10000 || full < 300 {
		t.Errorf("%d frames, %d bad, %d live, %d not any more: too few tell nothing", frames, bad, live, full)
	}
}

// P5, P4: over a wire that loses frames

// seat is an observer that takes in what it is told, and the wires to it and from it.
type seat struct {
	*link.Link
	to, from wire
	view     board.Board
	tick     uint32
	joined   bool
	told     int
}

// wire loses frames, doubles them, holds them back and spoils them.
type wire [4][][]byte

func (w *wire) put(rolls *rand.Rand, frames [][]byte) {
	for _, p := range frames {
		late := rolls.Intn(3) * rolls.Intn(2)
		switch rolls.Intn(8) {
		case 0:
			continue
		case 1:
			w[3] = append(w[3], p)
		case 2:
			p = slices.Clone(p)
			p[rolls.Intn(len(p))] ^= byte(1 + rolls.Intn(255))
		}
		w[late] = append(w[late], p)
	}
}

func (w *wire) take() [][]byte {
	l := w[0]
	*w = wire{w[1], w[2], w[3]}
	return l
}

// takes holds what the seat is told to the views that there were.
func (x *seat) takes(t *testing.T, o int, past []rules.State) {
	t.Helper()
	for _, p := range x.to.take() {
		messages, _ := x.Take(p)
		for _, q := range messages {
			m, e := frame.Read(q)
			if e != api.OK {
				t.Fatal(e)
			}
			x.told++
			switch {
			case m.Kind == api.Snapshot:
				x.view, e = m.Delta.Board()
			case !x.joined || m.Kind != api.Step || m.Tick != x.tick+1:
				t.Fatalf("%d, at the tick %d: %v", o, x.tick, m)
			default:
				x.view, e = m.Delta.Apply(x.view)
			}
			x.joined, x.tick = true, m.Tick
			if e != api.OK || x.view != past[m.Tick].View(o).Board {
				t.Fatalf("%d, at the tick %d: %v, %v, not %v", o, m.Tick, e, x.view.Cells(), past[m.Tick].View(o).Board.Cells())
			}
		}
	}
}

// TestWhatIsToldIsSo: whatever becomes of frames, all that comes is what there was to see, tick by tick, of the game that is played.
func TestWhatIsToldIsSo(t *testing.T) {
	told := 0
	for seed := range int64(60) {
		rolls := rand.New(rand.NewSource(seed))
		g := mixed(rolls)
		r, _ := New(g, uint64(seed), nil, []int{rolls.Intn(16), 0, rolls.Intn(5)})
		past := []rules.State{r.State()}
		seats := make([]seat, g.Observers)
		for now := range 200 {
			var in [][][]byte
			for o := range seats {
				x := &seats[o]
				switch {
				case x.Link == nil || rolls.Intn(80) == 0:
					x.Link, x.joined = link.New(x.Epoch()+1), false
					x.Send(hello.Bytes())
				case rolls.Intn(40) == 0:
					x.Send(resync.Bytes())
				case rolls.Intn(2) == 0:
					x.Send(input(uint32(now+2+rolls.Intn(6)), uint32(rolls.Intn(8))).Bytes())
				}
				x.from.put(rolls, x.Tick(now))
				in = append(in, x.from.take())
			}
			out := r.Cycle(in)
			next, came := g.Step(past[now], r.Moves())
			if r.State() != next || !same(r.Outcome(), came) {
				t.Fatalf("%d, at the tick %d: %v, not %v", seed, now+1, r.State(), next)
			}
			past = append(past, next)
			for o := range seats {
				seats[o].to.put(rolls, out[o])
				seats[o].takes(t, o, past)
			}
		}
		for o := range seats {
			told += seats[o].told
		}
	}
	if told < 10000 {
		t.Errorf("%d messages: too few tell nothing", told)
	}
}

// P15.4, P3: what one is told says nothing of what one may not see

// twins are two referees of one game, told the same frames, but for the moves of those who aren't o.
type twins struct {
	o    int
	a, b *Referee
	ends []far
}

// frames answers what comes to both from an observer. Of o it is the same.
func (x *twins) frames(rolls *rand.Rand, o int, now, moves uint32) (a, b [][]byte) {
	for range rolls.Intn(3) {
		end := &x.ends[o]
		if rolls.Intn(3) > 0 || now == 0 {
			p := end.sends(rolls, now, moves)
			a, b = append(a, p), append(b, p)
			continue
		}
		m, n := input(now+1+uint32(rolls.Intn(4)), uint32(rolls.Intn(int(moves)))), frame.Message{}
		n = m
		if o != x.o {
			n.Move = uint32(rolls.Intn(int(moves)))
		}
		a, b = append(a, short(end.epoch, end.seq, m)), append(b, short(end.epoch, end.seq, n))
		end.seq++
	}
	return a, b
}

// parted tells whether o was shown values that aren't the same.
func parted(a, b []vm.Show, o int) bool {
	for i := range min(len(a), len(b)) {
		if a[i].To.Has(o) && a[i].Value != b[i].Value {
			return true
		}
	}
	return false
}

// hiddenFrom answers so many values.
func hiddenFrom(rolls *rand.Rand) []int32 {
	l := make([]int32, 24)
	for i := range l {
		l[i] = int32(rolls.Intn(7)) - 2
	}
	return l
}

func TestNothingIsTold(t *testing.T) {
	var alike, frames, apart, differ int
	for seed := range int64(700) {
		rolls := rand.New(rand.NewSource(seed))
		g := mixed(rolls)
		delays := []int{rolls.Intn(5), rolls.Intn(16)}[:rolls.Intn(3)]
		x := &twins{o: rolls.Intn(g.Observers), ends: make([]far, g.Observers)}
		x.a, _ = New(g, rolls.Uint64(), hiddenFrom(rolls), delays)
		x.b, _ = New(g, rolls.Uint64(), hiddenFrom(rolls), delays)
		for o := range x.ends {
			x.ends[o].epoch = 1
		}
		for now := range uint32(60) {
			var left, right [][][]byte
			for o := range x.ends {
				l, m := x.frames(rolls, o, now, g.Moves)
				left, right = append(left, l), append(right, m)
			}
			a, b := x.a.Cycle(left), x.b.Cycle(right)
			if parted(x.a.Outcome().Shows, x.b.Outcome().Shows, x.o) {
				apart++
				break
			}
			if !slices.EqualFunc(a[x.o], b[x.o], bytes.Equal) {
				t.Fatalf("%d at the tick %d: %d is told % x, and % x", seed, now+1, x.o, a[x.o], b[x.o])
			}
			mustEpoch(t, seed, x.b, x.o, x.a.Epoch(x.o), x.a.Sent(x.o))
			if x.a.Live().Has(x.o) != x.b.Live().Has(x.o) || x.a.Bad() != x.b.Bad() {
				t.Fatalf("%d at the tick %d: %s, %s", seed, now+1, x.a.Live().Text(), x.b.Live().Text())
			}
			alike++
			frames += len(a[x.o])
			if x.a.State().Board != x.b.State().Board {
				differ++
			}
			for o := range x.ends {
				x.ends[o].hears(a[o])
			}
		}
	}
	if alike < 20000 || frames < 20000 || apart < 50 || differ < 10000 {
		t.Errorf("%d cycles, %d frames, %d apart, %d with other boards: too few tell nothing", alike, frames, apart, differ)
	}
}

// TestASecretIsToldWhenItIsShown: at the tick of the Reveal, less one's delay, and to those alone to whom it is shown.
func TestASecretIsToldWhenItIsShown(t *testing.T) {
	g := rules.Game{Observers: 3, Players: 1, Moves: 1, Cells: []board.Cell{{}, {Seen: 7}}, Code: []code.Code{ // at the tick 6 cell 0 is shown to 0 and 2
		{Op: code.Clock, A: 1}, {Op: code.Store, A: 1, N: 1}, {Op: code.Set, A: 2, N: 6}, {Op: code.Equal, A: 1, B: 1, C: 2},
		{Op: code.Branch, A: 1, N: 6}, {Op: code.Reveal, Mask: 5},
	}}
	a, _ := New(g, 1, []int32{11}, []int{0, 0, 4})
	b, _ := New(g, 2, []int32{12}, []int{0, 0, 4})
	in := [][][]byte{{short(1, 0, hello)}, {short(1, 0, hello)}, {short(1, 0, hello)}}
	var seq [3]order.Seq
	for now := uint32(1); now <= 12; now++ {
		x, y := a.Cycle(in), b.Cycle(in)
		for o, differs := range []bool{now >= 6, false, now >= 10} {
			if slices.EqualFunc(x[o], y[o], bytes.Equal) == differs {
				t.Errorf("at the tick %d, to %d: % x, % x", now, o, x[o], y[o])
			}
			if len(x[o]) != len(y[o]) {
				t.Errorf("at the tick %d, to %d: %d, %d frames", now, o, len(x[o]), len(y[o]))
			}
			for _, f := range parsed(t, x[o]) {
				if !f.Alone {
					seq[o]++
				}
			}
		}
		in = [][][]byte{{alone(1, seq[0])}, {alone(1, seq[1])}, {alone(1, seq[2])}}
	}
}

// P15.3: of whom there isn't, and a nil referee

func TestObserversThatThereAreNot(t *testing.T) {
	r := made(t, game(3, 2))
	r.Cycle([][][]byte{{short(4, 0, hello)}, {short(4, 0, hello)}, {short(4, 0, hello)}})
	r.Cycle(nil)
	for o := range 3 {
		mustEpoch(t, o, r, o, 4, 2)
	}
	for _, o := range noObservers(3) {
		mustEpoch(t, o, r, o, 0, 0)
	}
}

func TestANilReferee(t *testing.T) {
	var r *Referee
	for _, in := range [][][][]byte{nil, {}, {nil}, from(3, short(1, 0, hello))} {
		if r.Cycle(in) != nil || r.State() != (rules.State{}) || r.Tick() != 0 || r.Moves() != nil || !same(r.Outcome(), rules.Outcome{}) {
			t.Error("it has something")
		}
		mustBe(t, "nil", r, 0, 0)
		for _, o := range append(noObservers(3), 0, 1, 2) {
			mustEpoch(t, o, r, o, 0, 0)
		}
	}
}

// TestAZeroRefereeDoesNotPanic: P1.
func TestAZeroRefereeDoesNotPanic(t *testing.T) {
	r := new(Referee)
	for range 3 {
		r.Cycle(nil)
		r.Cycle(from(3, short(1, 0, hello)))
		r.State()
		r.Moves()
		r.Outcome()
		mustBe(t, "the zero one", r, 0, 0)
		for _, o := range append(noObservers(0), 0, 1) {
			mustEpoch(t, o, r, o, 0, 0)
		}
	}
}

// TestGamesAtTheEdges: the most of all, and the least.
func TestGamesAtTheEdges(t *testing.T) {
	most := rules.Game{Observers: 32, Players: 6, Moves: math.MaxUint32, Default: math.MaxUint32 - 1, Cells: make([]board.Cell, 48), Code: make([]code.Code, 96)}
	for i := range most.Code {
		most.Code[i] = code.Code{Op: code.Shuffle, C: 48}
	}
	for i, g := range []rules.Game{most, {Observers: 1, Players: 1, Moves: 1}, {Observers: 32, Players: 1, Moves: 1}} {
		x := seated(t, g, make([]int, 100)...)
		for o := range g.Observers {
			x.say(o, hello)
		}
		for range 20 {
			for o, l := range x.cycle() {
				if len(l) != 1 || l[0].Tick != x.Tick() {
					t.Fatalf("%d, to %d: %v", i, o, l)
				}
			}
		}
		mustBe(t, i, x.Referee, g.All(), 0)
	}
}

// Memory

// TestNothingThatIsHandedInIsKept writes over all of it, up to its spare room.
func TestNothingThatIsHandedInIsKept(t *testing.T) {
	g := game(3, 2)
	cells, l := append(make([]board.Cell, 0, 20), g.Cells...), append(make([]code.Code, 0, 40), g.Code...)
	hidden, delays := append(make([]int32, 0, 4), 9, 8), append(make([]int, 0, 8), 0, 2, 4, 6)
	g.Cells, g.Code = cells, l
	r, e := New(g, 3, hidden, delays)
	other, _ := New(game(3, 2), 3, []int32{9}, []int{0, 2, 4})
	if e != api.OK || !slices.Equal(cells, game(3, 2).Cells) || !slices.Equal(l, game(3, 2).Code) || !slices.Equal(hidden, []int32{9, 8}) || !slices.Equal(delays, []int{0, 2, 4, 6}) {
		t.Fatal("what is handed in is changed")
	}
	for i := range cells[:cap(cells)] {
		cells[:cap(cells)][i] = board.Cell{Value: 99, Seen: math.MaxUint32}
	}
	for i := range l[:cap(l)] {
		l[:cap(l)][i] = code.Code{Op: 99}
	}
	clear(hidden[:cap(hidden)])
	clear(delays[:cap(delays)])
	end := link.New(1)
	end.Send(hello.Bytes())
	end.Send(make([]byte, 300)) // it comes in pieces
	for now := range 12 {
		var in, kept [][][]byte
		frames := end.Tick(now)
		if now < 6 && len(frames) > 0 {
			frames = frames[1:] // so that some of them are kept till their turn comes
		}
		for range 3 {
			in, kept = append(in, nil), append(kept, nil)
			for _, p := range frames {
				with := append(make([]byte, 0, len(p)+10), p...)
				in[len(in)-1] = append(in[len(in)-1], with)
				kept[len(kept)-1] = append(kept[len(kept)-1], slices.Clone(p))
			}
		}
		got, want := r.Cycle(in), other.Cycle(kept)
		for o := range in {
			if !slices.EqualFunc(in[o], kept[o], bytes.Equal) {
				t.Fatal("what is handed in is changed")
			}
			if !slices.EqualFunc(got[o], want[o], bytes.Equal) {
				t.Fatalf("at the tick %d, to %d: % x, not % x", now+1, o, got[o], want[o])
			}
			for _, p := range in[o] {
				for i := range p[:cap(p)] {
					p[:cap(p)][i] ^= 0xee
				}
			}
			clear(in[o])
		}
		clear(in)
		taken(t, end, want[0])
		if r.State() != other.State() || r.Bad() != other.Bad() || r.Live() != other.Live() {
			t.Fatal(r.State())
		}
	}
	mustBe(t, "all has come", r, 7, 3)
}

// TestAnswersShareNoMemory writes over answers, up to their spare room, and asks again.
func TestAnswersShareNoMemory(t *testing.T) {
	g := game(3, 2)
	g.Code = append(g.Code, code.Code{Op: code.Reveal, N: 3, Mask: 6})
	r, other := made(t, g), made(t, g)
	var comes [][][]byte
	for o := range 3 {
		comes = append(comes, [][]byte{short(1, 0, hello), short(1, 1, input(3, uint32(o)))})
	}
	for now := range 8 {
		got, want := r.Cycle(comes), other.Cycle(comes)
		comes = nil
		for o := range want {
			if !slices.EqualFunc(got[o], want[o], bytes.Equal) {
				t.Fatalf("at the tick %d, to %d: % x, not % x", now+1, o, got[o], want[o])
			}
			for _, p := range got[o] {
				for i := range p[:cap(p)] {
					p[:cap(p)][i] ^= 0xee
				}
			}
			clear(got[o][:cap(got[o])])
		}
		clear(got[:cap(got)])
		moves, shows := r.Moves(), r.Outcome().Shows
		for i := range moves[:cap(moves)] {
			moves[:cap(moves)][i] = 99
		}
		for i := range shows[:cap(shows)] {
			shows[:cap(shows)][i] = vm.Show{Cell: 99}
		}
		if !slices.Equal(r.Moves(), other.Moves()) || !same(r.Outcome(), other.Outcome()) || r.State() != other.State() {
			t.Fatalf("%v, %v, not %v, %v", r.Moves(), r.Outcome(), other.Moves(), other.Outcome())
		}
		if (len(other.Outcome().Shows) == 1) != (now == 0) {
			t.Fatal(other.Outcome())
		}
	}
}

// TestRefereesHangOnThemselvesAlone: two of one game go each its own way.
func TestRefereesHangOnThemselvesAlone(t *testing.T) {
	g := game(3, 2)
	a, b := made(t, g), made(t, g)
	a.Cycle(from(0, short(1, 0, hello), short(1, 1, input(2, 3)), []byte{1}))
	mustBe(t, "the other one", b, 0, 0)
	a.Cycle(nil)
	b.Cycle(nil)
	b.Cycle(nil)
	if a.Moves()[0] != 3 || b.Moves()[0] != 7 || a.State() == b.State() {
		t.Error(a.Moves(), b.Moves())
	}
	mustEpoch(t, "one", a, 0, 1, 2)
	mustEpoch(t, "the other one", b, 0, 0, 0)
}
