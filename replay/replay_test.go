package replay

import (
	"bytes"
	"encoding/binary"
	"encoding/hex"
	"hash/crc32"
	"math"
	"math/rand"
	"slices"
	"testing"

	"hoodwink/api"
	"hoodwink/board"
	"hoodwink/client"
	"hoodwink/code"
	"hoodwink/delta"
	"hoodwink/dice"
	"hoodwink/mask"
	"hoodwink/rules"
	"hoodwink/vm"
	"hoodwink/wire"
	"hoodwink/world"
)

// everywhere has the bit of each place there may be, and of some that there can't.
const everywhere = math.MaxUint64

// game answers one of so many observers and players, with ten moves, of which 7 is the default. Each player's move is stored in a cell for it alone, the tick in one that all see; behind these are a cell that nobody sees, which is rolled, and one for 0 alone.
func game(observers, players int) rules.Game {
	g := rules.Game{Observers: observers, Players: players, Moves: 10, Default: 7}
	for player := range players {
		g.Cells = append(g.Cells, board.Cell{Value: -1, Seen: mask.Of(player)})
		g.Code = append(g.Code, code.Code{Op: code.Move, A: 1, N: int32(player)}, code.Code{Op: code.Store, A: 1, N: int32(player)})
	}
	g.Cells = append(g.Cells, board.Cell{Value: -2, Seen: g.All()}, board.Cell{Value: 50}, board.Cell{Value: 60, Seen: 1})
	g.Code = append(g.Code,
		code.Code{Op: code.Clock, A: 2}, code.Code{Op: code.Store, A: 2, N: int32(players)},
		code.Code{Op: code.Roll, A: 3, N: 1000}, code.Code{Op: code.Store, A: 3, N: int32(players) + 1})
	return g
}

// plain answers a game of so many observers with these cells, and without code.
func plain(observers int, cells ...board.Cell) rules.Game {
	return rules.Game{Observers: observers, Players: 1, Moves: 1, Cells: cells}
}

// wrong are games that aren't Right, each in one thing alone.
func wrong() []rules.Game {
	all := []rules.Game{{}}
	for _, change := range []func(g *rules.Game){
		func(g *rules.Game) { g.Observers = 1 },
		func(g *rules.Game) { g.Observers = 0 },
		func(g *rules.Game) { g.Observers = -1 },
		func(g *rules.Game) { g.Observers = 33 },
		func(g *rules.Game) { g.Observers, g.Players = math.MaxInt, math.MaxInt },
		func(g *rules.Game) { g.Players, g.Code = 0, nil },
		func(g *rules.Game) { g.Observers, g.Players = 9, 7 },
		func(g *rules.Game) { g.Moves = 7 },
		func(g *rules.Game) { g.Moves, g.Default = 0, 0 },
		func(g *rules.Game) { g.Cells[3].Seen = 8 },
		func(g *rules.Game) { g.Code[0].N = 2 },
		func(g *rules.Game) { g.Code[1].N = 5 },
		func(g *rules.Game) { g.Code[1].Op = 26 },
	} {
		g := game(3, 2)
		change(&g)
		all = append(all, g)
	}
	return all
}

// noObservers are such as no game of so many has.
func noObservers(observers int) []int {
	return []int{observers, observers + 1, 33, 63, 64, 256, math.MaxInt32, 1 << 32, math.MaxInt, -1, -2, -32, -256, math.MinInt32, math.MinInt}
}

// at answers a state of these cells.
func at(t *testing.T, tick uint32, cells ...board.Cell) rules.State {
	t.Helper()
	b, e := board.New(cells...)
	if e != api.OK {
		t.Fatal(e)
	}
	return rules.State{Board: b, Dice: dice.Dice{State: 5}, Tick: tick}
}

// with answers a state with another cell at i, at the next tick.
func with(t *testing.T, s rules.State, i int, c board.Cell) rules.State {
	t.Helper()
	b, e := s.Board.Put(i, c)
	if e != api.OK {
		t.Fatal(e)
	}
	s.Board = b
	s.Tick++
	return s
}

// begun answers how g starts.
func begun(t *testing.T, g rules.Game, hidden ...int32) rules.State {
	t.Helper()
	s, e := g.Start(3, hidden)
	if e != api.OK {
		t.Fatal(e)
	}
	return s
}

// made answers a tape.
func made(t *testing.T, g rules.Game, o int, s rules.State) *Tape {
	t.Helper()
	x := New(g, o, s)
	if x == nil {
		t.Fatal("no tape")
	}
	return x
}

// mustAdd holds an Add to its answer, and the tape to how many views it has then.
func mustAdd(t *testing.T, what any, x *Tape, s rules.State, touched uint64, want api.Errno) {
	t.Helper()
	before, n := x.Bytes(), x.Len()
	if got := x.Add(s, touched); got != want {
		t.Fatalf("%v: %v, not %v", what, got, want)
	}
	if want == api.OK {
		n++
	} else if !bytes.Equal(x.Bytes(), before) {
		t.Fatalf("%v: beside an error the tape has changed", what)
	}
	if x.Len() != n {
		t.Fatalf("%v: %d views, not %d", what, x.Len(), n)
	}
}

// mustRead answers what is read of p.
func mustRead(t *testing.T, p []byte) *Reel {
	t.Helper()
	r, e := Read(p)
	if e != api.OK || r == nil {
		t.Fatal(r, e)
	}
	return r
}

// mustNotRead holds a Read to its error.
func mustNotRead(t *testing.T, what any, p []byte, want api.Errno) {
	t.Helper()
	if r, e := Read(p); e != want || r != nil {
		t.Fatalf("%v: %v, %v, not %v", what, r, e, want)
	}
}

// mustView holds a reel to its views.
func mustView(t *testing.T, what any, r *Reel, want ...rules.State) {
	t.Helper()
	if r.Len() != len(want) {
		t.Fatalf("%v: %d views, not %d", what, r.Len(), len(want))
	}
	n := 0
	for i, s := range r.Views() {
		if x, ok := r.View(i); i != n || s != want[i] || x != want[i] || !ok || x.Dice != (dice.Dice{}) {
			t.Fatalf("%v: at %d %d, %v, of the tick %d, not %v, of the tick %d", what, n, i, s.Board.Cells(), s.Tick, want[i].Board.Cells(), want[i].Tick)
		}
		n++
	}
	if n != len(want) {
		t.Fatalf("%v: %d views are told, not %d", what, n, len(want))
	}
}

// What a tape is by the document, without the program's pens, sums and Deltas.

func word(n uint32) []byte { return binary.LittleEndian.AppendUint32(nil, n) }

func num(n uint64) []byte { return binary.AppendUvarint(nil, n) }

func blob(p []byte) []byte { return append(num(uint64(len(p))), p...) }

func crc(p []byte) uint32 { return crc32.Checksum(p, crc32.MakeTable(crc32.Castagnoli)) }

func sealed(parts ...[]byte) []byte {
	p := slices.Concat(parts...)
	return append(p, word(crc(p))...)
}

// hash is the sum of all cells.
func hash(cells []board.Cell) uint32 {
	var p []byte
	for _, c := range cells {
		p = slices.Concat(p, word(uint32(c.Value)), word(uint32(c.Seen)))
	}
	return crc(p)
}

// writes answers the Blob of a Delta.
func writes(tick, hash uint32, places []byte, cells []board.Cell) []byte {
	p := slices.Concat(word(tick), word(hash), []byte{byte(len(places))})
	for i, c := range cells {
		p = slices.Concat(p, places[i:i+1], word(uint32(c.Value)), word(uint32(c.Seen)))
	}
	return blob(p)
}

// said is a tape as the document has it.
type said struct {
	g     rules.Game
	o     int
	views []rules.State
	told  []byte
}

// keep goes on to a view, of these places.
func (x *said) keep(view rules.State, touched uint64) {
	all := view.Board.Cells()
	var places []byte
	var cells []board.Cell
	for place, c := range all {
		if touched&(1<<place) != 0 {
			places, cells = append(places, byte(place)), append(cells, c)
		}
	}
	x.views = append(x.views, view)
	x.told = append(x.told, writes(view.Tick, hash(all), places, cells)...)
}

func saying(g rules.Game, o int, s rules.State) *said {
	x := &said{g: g, o: o}
	x.keep(s.View(o), everywhere)
	return x
}

func (x *said) add(s rules.State, touched uint64) api.Errno {
	last, view := x.views[len(x.views)-1], s.View(x.o)
	if s.Tick == 0 || s.Tick-1 != last.Tick {
		return api.ErrOld
	}
	was, is := last.Board.Cells(), view.Board.Cells()
	for place := range min(len(was), len(is)) {
		if touched&(1<<place) != 0 {
			was[place] = is[place]
		}
	}
	if !slices.Equal(was, is) {
		return api.ErrForm
	}
	if len(x.views) == 65536 {
		return api.ErrFull
	}
	x.keep(view, touched)
	return api.OK
}

func (x *said) bytes() []byte {
	return sealed([]byte("hoodwink"), blob(x.g.Bytes()), []byte{byte(x.o)}, num(uint64(len(x.views))), x.told)
}

// changed answers what isn't what it was.
func (x *said) changed(i int) []int {
	if i < 1 || i >= len(x.views) {
		return nil
	}
	var l []int
	for place := range x.views[i].Board.Len() {
		a, _ := x.views[i-1].Board.At(place)
		b, _ := x.views[i].Board.At(place)
		if a.Value != b.Value || a.Seen != b.Seen {
			l = append(l, place)
		}
	}
	return l
}

// places are some of all kinds, beside those of a tape.
func (x *said) places() []int {
	l := []int{-1, -2, len(x.views), len(x.views) + 1, math.MaxInt, math.MaxInt - 1, math.MinInt, math.MinInt + 1, 1 << 32}
	for i := range x.views {
		l = append(l, i)
	}
	return l
}

// mustBeSaid holds a tape, and what is read of it, to one as the document has it.
func mustBeSaid(t *testing.T, what any, tape *Tape, x *said) {
	t.Helper()
	p := tape.Bytes()
	if tape.Len() != len(x.views) || !bytes.Equal(p, x.bytes()) {
		t.Fatalf("%v: %d views, %x, not %d, %x", what, tape.Len(), p, len(x.views), x.bytes())
	}
	r := mustRead(t, p)
	mustView(t, what, r, x.views...)
	if !rules.Same(r.Game(), x.g) || r.Observer() != x.o {
		t.Fatalf("%v: observer %d of %v", what, r.Observer(), r.Game())
	}
	for _, i := range x.places() {
		if got := r.Changed(i); !slices.Equal(got, x.changed(i)) {
			t.Fatalf("%v: Changed(%d) %v, not %v", what, i, got, x.changed(i))
		}
		if v, ok := r.View(i); ok != (i >= 0 && i < len(x.views)) || !ok && v != (rules.State{}) {
			t.Fatalf("%v: View(%d) %v, %v", what, i, v, ok)
		}
	}
}

// P20.1: New

func TestTheExample(t *testing.T) {
	g := game(3, 2)
	if x := New(g, 0, begun(t, g)); x.Len() != 1 {
		t.Error(x.Len())
	}
}

// TestEachObserver has a tape of its own view, from any tick on.
func TestEachObserver(t *testing.T) {
	g := game(4, 2)
	for o := range 4 {
		for _, tick := range []uint32{0, 1, 77, 1 << 31, math.MaxUint32} {
			s := begun(t, g, 9)
			s.Tick = tick
			x := made(t, g, o, s)
			if x.Len() != 1 {
				t.Fatal(x.Len())
			}
			mustBeSaid(t, o, x, saying(g, o, s))
		}
	}
}

func TestGamesThatAreNotRight(t *testing.T) {
	for i, g := range wrong() {
		cells := g.Cells[:min(len(g.Cells), api.MaxCells)]
		if g.Right() || New(g, 0, at(t, 0, cells...)) != nil {
			t.Errorf("%d: a tape", i)
		}
	}
	many := plain(1, make([]board.Cell, 49)...)
	if New(many, 0, at(t, 0, make([]board.Cell, 48)...)) != nil {
		t.Error("too many cells: a tape")
	}
}

func TestObserversThatThereAreNot(t *testing.T) {
	for _, observers := range []int{1, 2, 3, 31, 32} {
		g := plain(observers, board.Cell{Seen: 1})
		for _, o := range noObservers(observers) {
			if (o < 0 || o >= observers) && New(g, o, begun(t, g)) != nil {
				t.Errorf("%d of %d: a tape", o, observers)
			}
		}
		made(t, g, 0, begun(t, g))
		made(t, g, observers-1, begun(t, g))
	}
}

func TestStatesOfOtherSize(t *testing.T) {
	for _, cells := range []int{0, 1, 5, 47, 48} {
		g := plain(2, make([]board.Cell, cells)...)
		for size := range 49 {
			x := New(g, 1, at(t, 0, make([]board.Cell, size)...))
			if (x != nil) != (size == cells) {
				t.Errorf("%d cells for %d: %v", size, cells, x != nil)
			}
		}
	}
}

// TestLabelsOfNobody: of a state nothing else is asked.
func TestLabelsOfNobody(t *testing.T) {
	g := plain(2, board.Cell{}, board.Cell{})
	s := at(t, 3, board.Cell{Value: 4, Seen: math.MaxUint32}, board.Cell{Value: math.MinInt32, Seen: 1 << 31})
	mustBeSaid(t, "labels", made(t, g, 1, s), saying(g, 1, s))
}

// P20.1: Add

// TestAddsByHand: what was touched is told, though it stays, and what one doesn't see is 0.
func TestAddsByHand(t *testing.T) {
	g := plain(2, board.Cell{Value: 1, Seen: 1}, board.Cell{Value: 2, Seen: 3}, board.Cell{Value: 3})
	s := begun(t, g)
	x, other := made(t, g, 0, s), made(t, g, 1, s)
	next := with(t, s, 0, board.Cell{Value: 8, Seen: 1})
	mustAdd(t, "0 sees it", x, next, 1, api.OK)
	mustAdd(t, "1 doesn't", other, next, 1, api.OK)
	shown := with(t, next, 2, board.Cell{Value: 3, Seen: 2})
	mustAdd(t, "its label alone", x, shown, 4, api.OK)
	mustAdd(t, "label and value", other, shown, 6, api.OK)
	view := func(tick uint32, a, b, c board.Cell) rules.State {
		s := at(t, tick, a, b, c)
		s.Dice = dice.Dice{}
		return s
	}
	two := board.Cell{Value: 2, Seen: 3}
	mustView(t, "of 0", mustRead(t, x.Bytes()),
		view(0, board.Cell{Value: 1, Seen: 1}, two, board.Cell{}),
		view(1, board.Cell{Value: 8, Seen: 1}, two, board.Cell{}),
		view(2, board.Cell{Value: 8, Seen: 1}, two, board.Cell{Seen: 2}))
	mustView(t, "of 1", mustRead(t, other.Bytes()),
		view(0, board.Cell{Seen: 1}, two, board.Cell{}),
		view(1, board.Cell{Seen: 1}, two, board.Cell{}),
		view(2, board.Cell{Seen: 1}, two, board.Cell{Value: 3, Seen: 2}))
}

// TestTicks: each Add is of the next one, up to the last one there is.
func TestTicks(t *testing.T) {
	g := plain(1, board.Cell{})
	for _, tick := range []uint32{0, 1, 2, 255, 65535, 1<<31 - 1, 1 << 31, math.MaxUint32 - 1, math.MaxUint32} {
		s := at(t, tick, board.Cell{})
		x := made(t, g, 0, s)
		for _, other := range []uint32{tick, tick - 1, tick + 2, tick + 1<<31, 0, math.MaxUint32} {
			if uint64(other) != uint64(tick)+1 {
				mustAdd(t, []uint32{tick, other}, x, at(t, other, board.Cell{}), everywhere, api.ErrOld)
			}
		}
		want := api.OK
		if tick == math.MaxUint32 {
			want = api.ErrOld
		}
		mustAdd(t, tick, x, at(t, tick+1, board.Cell{}), 0, want)
		mustAdd(t, tick, x, at(t, tick+1, board.Cell{}), 0, api.ErrOld)
	}
}

// TestTouched: places that were told of do no harm, those that weren't must be what they were.
func TestTouched(t *testing.T) {
	seen, hidden := board.Cell{Value: 1, Seen: 3}, board.Cell{Value: 2, Seen: 1}
	g := plain(2, seen, hidden, seen)
	s := begun(t, g)
	for _, x := range []struct {
		name    string
		place   int
		cell    board.Cell
		touched uint64
		want    api.Errno
	}{
		{"nothing", 0, seen, 0, api.OK},
		{"nothing, all touched", 0, seen, everywhere, api.OK},
		{"nothing, places that there aren't", 0, seen, everywhere - 7, api.OK},
		{"a value, not touched", 0, board.Cell{Value: 5, Seen: 3}, 0, api.ErrForm},
		{"a value, others touched", 0, board.Cell{Value: 5, Seen: 3}, everywhere &^ 1, api.ErrForm},
		{"a value, touched", 0, board.Cell{Value: 5, Seen: 3}, 1, api.OK},
		{"a value, touched beside others", 2, board.Cell{Value: 5, Seen: 3}, 6, api.OK},
		{"the last value, not touched", 2, board.Cell{Value: 5, Seen: 3}, 3, api.ErrForm},
		{"what it doesn't see, not touched", 1, board.Cell{Value: 9, Seen: 1}, 0, api.OK},
		{"what it doesn't see, touched", 1, board.Cell{Value: 9, Seen: 1}, 2, api.OK},
		{"a label, not touched", 1, board.Cell{Value: 2, Seen: 0}, 5, api.ErrForm},
		{"a label, touched", 1, board.Cell{Value: 2, Seen: 0}, 2, api.OK},
		{"it sees it now, not touched", 1, board.Cell{Value: 2, Seen: 2}, 0, api.ErrForm},
		{"it sees it now, touched", 1, board.Cell{Value: 2, Seen: 2}, 2, api.OK},
		{"it sees it no more, not touched", 0, board.Cell{Value: 1, Seen: 1}, 0, api.ErrForm},
		{"it sees it no more, touched", 0, board.Cell{Value: 1, Seen: 1}, 1, api.OK},
	} {
		next := with(t, s, x.place, x.cell)
		tape, by := made(t, g, 1, s), saying(g, 1, s)
		mustAdd(t, x.name, tape, next, x.touched, x.want)
		if e := by.add(next, x.touched); e != x.want {
			t.Fatalf("%s: the document's is %v", x.name, e)
		}
		mustBeSaid(t, x.name, tape, by)
	}
}

// TestBoardsOfOtherSize are no next step, whatever was touched.
func TestBoardsOfOtherSize(t *testing.T) {
	for _, cells := range []int{0, 1, 3, 47, 48} {
		g := plain(1, make([]board.Cell, cells)...)
		x := made(t, g, 0, begun(t, g))
		for size := range 49 {
			for _, touched := range []uint64{0, 1, 1 << 47, everywhere} {
				if size != cells {
					mustAdd(t, []int{cells, size}, x, at(t, 1, make([]board.Cell, size)...), touched, api.ErrForm)
				}
			}
		}
	}
}

// alike answers a cell of this label, which in the place of the last one makes a board of the same Hash: its value undoes what the other cells change.
func alike(t *testing.T, was, is []board.Cell) []board.Cell {
	t.Helper()
	last := len(is) - 1
	zero := slices.Clone(is)
	zero[last].Value = 0
	base, want := hash(zero), hash(was)
	var rows [32][2]uint32 // by its highest bit: what a value changes in the Hash, and the value
	for bit := range 32 {
		zero[last].Value = int32(uint32(1) << bit)
		change, value := hash(zero)^base, uint32(1)<<bit
		for b := 31; b >= 0 && change != 0; b-- {
			if change>>b&1 == 0 {
				continue
			}
			if rows[b][0] == 0 {
				rows[b] = [2]uint32{change, value}
				break
			}
			change, value = change^rows[b][0], value^rows[b][1]
		}
	}
	left, value := want^base, uint32(0)
	for b := 31; b >= 0; b-- {
		if left>>b&1 == 1 {
			left, value = left^rows[b][0], value^rows[b][1]
		}
	}
	zero[last].Value = int32(value)
	if left != 0 || hash(zero) != want || slices.Equal(zero, was) {
		t.Fatal("no other board")
	}
	return zero
}

// TestOtherBoardsOfTheSameHash aren't the step's, though its Delta is none the wiser.
func TestOtherBoardsOfTheSameHash(t *testing.T) {
	was := []board.Cell{{Value: 1, Seen: 3}, {Value: 2, Seen: 1}, {Value: 3, Seen: 3}}
	g := plain(2, was...)
	s := begun(t, g)
	for o := range 2 {
		view := s.View(o).Board.Cells()
		is := slices.Clone(view)
		is[0].Value = 99
		next := at(t, 1, alike(t, view, is)...)
		if next.Board.Hash() != s.View(o).Board.Hash() {
			t.Fatal("not the same Hash")
		}
		x := made(t, g, o, s)
		for _, touched := range []uint64{0, 2} {
			mustAdd(t, o, x, next, touched, api.ErrForm)
		}
		mustAdd(t, o, x, next, 5, api.OK)
		mustView(t, o, mustRead(t, x.Bytes()), s.View(o), next.View(o))
	}
}

// TestTwoErrors: the first of them is told.
func TestTwoErrors(t *testing.T) {
	g := plain(1, board.Cell{Seen: 1})
	x := made(t, g, 0, begun(t, g))
	mustAdd(t, "tick and value", x, at(t, 2, board.Cell{Value: 1, Seen: 1}), 0, api.ErrOld)
	mustAdd(t, "tick and size", x, at(t, 0), 0, api.ErrOld)
	mustAdd(t, "size alone", x, at(t, 1), 1, api.ErrForm)
}

// TestBehindAnError it goes on from the last view.
func TestBehindAnError(t *testing.T) {
	g := game(3, 2)
	s := begun(t, g)
	x, by := made(t, g, 1, s), saying(g, 1, s)
	for n := range 20 {
		next, came := g.Step(s, []uint32{uint32(n % 10), uint32(n * 3 % 10)})
		mustAdd(t, "too early", x, rules.State{Board: next.Board, Tick: next.Tick + 1}, came.Touched, api.ErrOld)
		mustAdd(t, "nothing touched", x, next, 0, api.ErrForm)
		mustAdd(t, "too late", x, s, everywhere, api.ErrOld)
		mustAdd(t, n, x, next, came.Touched, api.OK)
		by.add(next, came.Touched)
		s = next
	}
	mustBeSaid(t, "behind errors", x, by)
}

// TestAFullTape has 2^16 views; a further one is refused, behind what else is wrong with it.
func TestAFullTape(t *testing.T) {
	g := plain(1, board.Cell{Seen: 1})
	s := at(t, math.MaxUint32-1<<16, board.Cell{Seen: 1})
	x, by := made(t, g, 0, s), saying(g, 0, s)
	for n := range 1<<16 - 1 {
		s = with(t, s, 0, board.Cell{Value: int32(n), Seen: 1})
		if e := x.Add(s, 1); e != api.OK || x.Len() != n+2 {
			t.Fatal(n, e, x.Len())
		}
		by.keep(s.View(0), 1)
	}
	next := with(t, s, 0, board.Cell{Value: -1, Seen: 1})
	mustAdd(t, "a further one", x, next, 1, api.ErrFull)
	mustAdd(t, "a further one, the same", x, at(t, next.Tick, s.Board.Cells()...), 0, api.ErrFull)
	mustAdd(t, "not touched", x, next, 0, api.ErrForm)
	mustAdd(t, "the last one again", x, s, 1, api.ErrOld)
	if x.Len() != 65536 || !bytes.Equal(x.Bytes(), by.bytes()) {
		t.Fatal("not what the document says")
	}
	r := mustRead(t, x.Bytes())
	mustView(t, "full", r, by.views...)
	if !slices.Equal(r.Changed(65535), []int{0}) || r.Changed(65536) != nil {
		t.Error(r.Changed(65535), r.Changed(65536))
	}
	by.keep(next.View(0), 1)
	mustNotRead(t, "one more", by.bytes(), api.ErrForm)
}

// P20.1: Bytes

// TestBytesByHand, byte by byte.
func TestBytesByHand(t *testing.T) {
	g := rules.Game{Observers: 2, Players: 1, Moves: 9, Default: 2, Cells: []board.Cell{{Value: 7, Seen: 1}, {Value: -2, Seen: 3}}}
	s := begun(t, g)
	s.Tick = 255
	tape := made(t, g, 1, s)
	mustAdd(t, "a step", tape, with(t, s, 1, board.Cell{Value: 5, Seen: 3}), 2, api.OK)
	mustAdd(t, "nothing", tape, at(t, 257, board.Cell{Value: 8, Seen: 1}, board.Cell{Value: 5, Seen: 3}), 0, api.OK)
	first := hash([]board.Cell{{Seen: 1}, {Value: -2, Seen: 3}})
	then := hash([]board.Cell{{Seen: 1}, {Value: 5, Seen: 3}})
	want := slices.Concat([]byte("hoodwink"),
		[]byte{29, 2, 1, 9, 0, 0, 0, 2, 0, 0, 0, 2, 7, 0, 0, 0, 1, 0, 0, 0, 254, 255, 255, 255, 3, 0, 0, 0, 1, 0},
		[]byte{1, 3},
		[]byte{27, 255, 0, 0, 0}, word(first), []byte{2, 0, 0, 0, 0, 0, 1, 0, 0, 0, 1, 254, 255, 255, 255, 3, 0, 0, 0},
		[]byte{18, 0, 1, 0, 0}, word(then), []byte{1, 1, 5, 0, 0, 0, 3, 0, 0, 0},
		[]byte{9, 1, 1, 0, 0}, word(then), []byte{0})
	if got := tape.Bytes(); !bytes.Equal(got, append(want, word(crc(want))...)) {
		t.Fatalf("%s, not %s", hex.EncodeToString(got), hex.EncodeToString(want))
	}
}

func TestMagic(t *testing.T) {
	if Magic != "hoodwink" {
		t.Error(Magic)
	}
}

// TestLongGames, whose Blob has more than 127 bytes, and long Deltas.
func TestLongGames(t *testing.T) {
	g := rules.Game{Observers: 32, Players: 6, Moves: math.MaxUint32, Default: math.MaxUint32 - 1}
	for i := range 48 {
		g.Cells = append(g.Cells, board.Cell{Value: int32(i) << 20, Seen: mask.Mask(math.MaxUint32) >> i})
	}
	for i := range int32(48) {
		g.Code = append(g.Code, code.Code{Op: code.Roll, A: 1, N: 1000}, code.Code{Op: code.Store, A: 1, N: i})
	}
	for _, o := range []int{0, 1, 15, 30, 31} {
		s := begun(t, g)
		x, by := made(t, g, o, s), saying(g, o, s)
		for range 20 {
			next, came := g.Step(s, nil)
			if came.Err != api.OK || came.Touched == 0 {
				t.Fatal(came.Err)
			}
			mustAdd(t, o, x, next, came.Touched, api.OK)
			by.add(next, came.Touched)
			s = next
		}
		mustBeSaid(t, o, x, by)
	}
}

// TestGamesWithoutCells have views of nothing.
func TestGamesWithoutCells(t *testing.T) {
	g := plain(1)
	s := begun(t, g)
	x, by := made(t, g, 0, s), saying(g, 0, s)
	for range 200 {
		s, _ = g.Step(s, nil)
		mustAdd(t, s.Tick, x, s, everywhere, api.OK)
		by.add(s, everywhere)
	}
	mustBeSaid(t, "no cells", x, by)
}

// TestBytesInBetween: it goes on behind them.
func TestBytesInBetween(t *testing.T) {
	g := game(2, 2)
	s := begun(t, g)
	x, by := made(t, g, 0, s), saying(g, 0, s)
	for n := range 30 {
		mustBeSaid(t, n, x, by)
		next, came := g.Step(s, []uint32{uint32(n % 10)})
		mustAdd(t, n, x, next, came.Touched, api.OK)
		by.add(next, came.Touched)
		s = next
	}
}

// P20.1 and P20.2, against the document's words

// instruction answers one that may be; of registers 5 to 7 are mostly such as all see, so that games go far.
func instruction(rolls *rand.Rand, size, cells, players int) code.Code {
	secret, public := byte(rolls.Intn(5)), byte(5+rolls.Intn(3))
	cell := int32(rolls.Intn(cells))
	return []code.Code{
		{Op: code.Set, A: public, N: int32(rolls.Intn(5)) - 1},
		{Op: code.Clock, A: public},
		{Op: code.Load, A: secret, N: cell},
		{Op: code.Store, A: secret, N: cell},
		{Op: code.Store, A: public, N: cell},
		{Op: code.StoreAt, A: secret, B: public, N: cell / 2},
		{Op: byte(code.Add + rolls.Intn(12)), A: secret, B: byte(rolls.Intn(8)), C: byte(rolls.Intn(8))},
		{Op: code.Branch, A: public, N: int32(rolls.Intn(size + 1))},
		{Op: code.Move, A: secret, N: int32(rolls.Intn(players))},
		{Op: code.Move, A: secret, N: int32(rolls.Intn(players))},
		{Op: code.Reveal, B: public, N: cell / 2, Mask: mask.Mask(rolls.Intn(128))},
		{Op: code.Roll, A: secret, N: 1 + int32(rolls.Intn(6))},
		{Op: code.Shuffle, N: cell, C: byte(1 + rolls.Intn(cells-int(cell)))},
	}[rolls.Intn(13)]
}

// mixed answers a game of all sorts. It may be. Of those that are rolled many come to rest, or to errors; so every third one goes on for sure.
func mixed(rolls *rand.Rand) rules.Game {
	if rolls.Intn(3) == 0 {
		players := 1 + rolls.Intn(6)
		return game(players+rolls.Intn(3), players)
	}
	g := rules.Game{Players: 1 + rolls.Intn(4), Moves: uint32(2 + rolls.Intn(5))}
	g.Observers = g.Players + rolls.Intn(3)
	g.Default = uint32(rolls.Intn(int(g.Moves)))
	for range 1 + rolls.Intn(24) {
		seen := mask.Mask(rolls.Uint32()) & g.All()
		switch rolls.Intn(4) {
		case 0:
			seen = 0
		case 1:
			seen = g.All()
		}
		g.Cells = append(g.Cells, board.Cell{Value: int32(rolls.Intn(7)) - 2, Seen: seen})
	}
	size := rolls.Intn(20)
	for range size {
		g.Code = append(g.Code, instruction(rolls, size, len(g.Cells), g.Players))
	}
	return g
}

// values answers so many, of some few.
func values(rolls *rand.Rand, n int) []int32 {
	var l []int32
	for range n {
		l = append(l, int32(rolls.Intn(7))-2)
	}
	return l
}

// moves answers those of a tick; some aren't Legal, and some there aren't.
func moves(rolls *rand.Rand, g rules.Game) []uint32 {
	var l []uint32
	for range rolls.Intn(g.Players + 2) {
		l = append(l, uint32(rolls.Intn(int(g.Moves)+1)))
	}
	return l
}

// aStep answers a state that may be the next one, and what was touched: some of them aren't the game's.
func aStep(rolls *rand.Rand, g rules.Game, s rules.State) (rules.State, uint64) {
	next, came := g.Step(s, moves(rolls, g))
	touched := came.Touched
	switch rolls.Intn(12) {
	case 0:
		touched &= rolls.Uint64()
	case 1:
		touched |= rolls.Uint64()
	case 2:
		next.Tick += uint32(rolls.Intn(5)) - 2
	case 3:
		place := rolls.Intn(len(g.Cells))
		next.Board, _ = next.Board.Put(place, board.Cell{Value: int32(rolls.Uint32()), Seen: mask.Mask(rolls.Uint32())})
		touched |= rolls.Uint64() & (1 << place)
	case 4:
		next.Board, _ = board.New(next.Board.Cells()[1:]...)
	}
	return next, touched
}

func TestItIsAsTheDocumentSays(t *testing.T) {
	met := map[api.Errno]int{}
	changed, still := 0, 0
	for seed := range int64(400) {
		rolls := rand.New(rand.NewSource(seed))
		g := mixed(rolls)
		o := rolls.Intn(g.Observers)
		s, e := g.Start(rolls.Uint64(), values(rolls, rolls.Intn(20)))
		if e != api.OK {
			t.Fatal(e)
		}
		if rolls.Intn(4) == 0 {
			s.Tick = math.MaxUint32 - uint32(rolls.Intn(30))
		}
		x, by := made(t, g, o, s), saying(g, o, s)
		for range 40 {
			next, touched := aStep(rolls, g, s)
			want := by.add(next, touched)
			met[want]++
			mustAdd(t, seed, x, next, touched, want)
			if want == api.OK {
				s = next
			}
		}
		mustBeSaid(t, seed, x, by)
		r := mustRead(t, x.Bytes())
		for i := range r.Len() {
			if len(r.Changed(i)) > 0 {
				changed++
			} else {
				still++
			}
		}
	}
	if met[api.OK] < 8000 || met[api.ErrOld] < 1000 || met[api.ErrForm] < 600 || changed < 3000 || still < 2000 {
		t.Errorf("%v, %d changed, %d still: too few tell nothing", met, changed, still)
	}
}

// P20.2: Read

// parts are those of a tape, each of which may be wrong.
type parts struct {
	magic string
	game  []byte // with how many bytes it has
	o     byte
	many  []byte
	told  [][]byte // each with how many bytes it has
	tail  []byte
}

func (x parts) bytes() []byte {
	return sealed([]byte(x.magic), x.game, []byte{x.o}, x.many, slices.Concat(x.told...), x.tail)
}

// alone makes this the only view, so that no step behind it tells that it is wrong.
func (x *parts) alone(told []byte) { x.told, x.many = [][]byte{told}, num(1) }

// good are the parts of a tape of 1, of four cells, of which it sees those at 1 and 2, and of four views.
func good() parts {
	g := plain(2, board.Cell{Value: 1, Seen: 1}, board.Cell{Value: 2, Seen: 3}, board.Cell{Value: 3, Seen: 2}, board.Cell{Value: 4})
	first := []board.Cell{{Seen: 1}, {Value: 2, Seen: 3}, {Value: 3, Seen: 2}, {}}
	then := []board.Cell{{Seen: 1}, {Value: 5, Seen: 3}, {Value: 3, Seen: 2}, {}}
	last := []board.Cell{{Seen: 1}, {Value: 5, Seen: 3}, {Value: 3, Seen: 2}, {Value: 9, Seen: 3}}
	return parts{magic: "hoodwink", game: blob(g.Bytes()), o: 1, many: num(4), told: [][]byte{
		writes(8, hash(first), []byte{0, 1, 2, 3}, first),
		writes(9, hash(then), []byte{1, 2}, then[1:3]),
		writes(10, hash(then), nil, nil),
		writes(11, hash(last), []byte{0, 3}, []board.Cell{last[0], last[3]}),
	}}
}

func TestReadByHand(t *testing.T) {
	r := mustRead(t, good().bytes())
	view := func(tick uint32, a, b int32, c board.Cell) rules.State {
		s := at(t, tick, board.Cell{Seen: 1}, board.Cell{Value: a, Seen: 3}, board.Cell{Value: b, Seen: 2}, c)
		s.Dice = dice.Dice{}
		return s
	}
	mustView(t, "good", r, view(8, 2, 3, board.Cell{}), view(9, 5, 3, board.Cell{}), view(10, 5, 3, board.Cell{}), view(11, 5, 3, board.Cell{Value: 9, Seen: 3}))
	for i, want := range [][]int{nil, {1}, nil, {3}, nil} {
		if got := r.Changed(i); !slices.Equal(got, want) {
			t.Errorf("Changed(%d): %v", i, got)
		}
	}
	if g := r.Game(); r.Observer() != 1 || g.Observers != 2 || g.Cells[3] != (board.Cell{Value: 4}) {
		t.Error(r.Observer(), g)
	}
}

// TestWrongTapes: each is wrong in one thing alone, and sealed.
func TestWrongTapes(t *testing.T) {
	first := []board.Cell{{Seen: 1}, {Value: 2, Seen: 3}, {Value: 3, Seen: 2}, {}}
	changed := func(place int, c board.Cell) []board.Cell {
		l := slices.Clone(first)
		l[place] = c
		return l
	}
	all := []byte{0, 1, 2, 3}
	full := func(cells ...board.Cell) []byte { return writes(8, hash(cells), all[:len(cells)], cells) }
	// step is of the tick 9, and of one place.
	step := func(place int, c board.Cell) []byte {
		return writes(9, hash(changed(place, c)), all[place:place+1], []board.Cell{c})
	}
	for _, x := range []struct {
		name   string
		change func(p *parts)
	}{
		{"no magic", func(p *parts) { p.magic = "" }},
		{"less magic", func(p *parts) { p.magic = "hoodwin" }},
		{"more magic", func(p *parts) { p.magic = "hoodwinkk" }},
		{"other magic at first", func(p *parts) { p.magic = "Hoodwink" }},
		{"other magic at last", func(p *parts) { p.magic = "hoodwinK" }},
		{"no game", func(p *parts) { p.game = nil }},
		{"an empty game", func(p *parts) { p.game = blob(nil) }},
		{"a game that isn't Right", func(p *parts) { p.game[2] = 0 }},
		{"a longer game", func(p *parts) { p.game = blob(append(p.game[1:], 0)) }},
		{"a shorter game", func(p *parts) { p.game = blob(p.game[1 : len(p.game)-1]) }},
		{"a game of fewer observers", func(p *parts) { p.game[1], p.o = 1, 0 }},
		{"a game of more bytes than there are", func(p *parts) { p.game = append([]byte{0xff, 0xff, 0xff, 0xff, 7}, p.game[1:]...) }},
		{"a game of 2^63 bytes", func(p *parts) { p.game = append(num(1<<63), p.game[1:]...) }},
		{"a game, how long told in too many bytes", func(p *parts) { p.game = append([]byte{p.game[0] | 0x80, 0}, p.game[1:]...) }},
		{"an observer that isn't one", func(p *parts) { p.o = 2 }},
		{"an observer that isn't one, and sees nothing", func(p *parts) {
			p.o = 2
			p.alone(full(board.Cell{}, board.Cell{}, board.Cell{}, board.Cell{}))
		}},
		{"a far observer", func(p *parts) { p.o = 255 }},
		{"another observer, who would see other values", func(p *parts) { p.o = 0 }},
		{"how many isn't told", func(p *parts) { p.many = nil }},
		{"no views", func(p *parts) { p.many, p.told = num(0), nil }},
		{"no views, but some are there", func(p *parts) { p.many = num(0) }},
		{"fewer views", func(p *parts) { p.many = num(3) }},
		{"more views", func(p *parts) { p.many = num(5) }},
		{"2^16 views", func(p *parts) { p.many = num(1 << 16) }},
		{"too many views", func(p *parts) { p.many = num(1<<16 + 1) }},
		{"2^64 - 1 views", func(p *parts) { p.many = num(math.MaxUint64) }},
		{"how many in too many bytes", func(p *parts) { p.many = []byte{0x84, 0} }},
		{"something behind", func(p *parts) { p.tail = []byte{0} }},
		{"a view behind", func(p *parts) { p.tail = writes(12, hash(first), nil, nil) }},
		{"the first one is empty", func(p *parts) { p.alone(blob(nil)) }},
		{"the first one lacks the last cell", func(p *parts) { p.alone(full(first[:3]...)) }},
		{"the first one has a cell more", func(p *parts) {
			p.alone(writes(8, hash(append(first, board.Cell{})), []byte{0, 1, 2, 3, 4}, append(first, board.Cell{})))
		}},
		{"the first one lacks the first place", func(p *parts) { p.alone(writes(8, hash(first), []byte{1, 2, 3}, first[1:])) }},
		{"the first one leaves a place out", func(p *parts) { p.alone(writes(8, hash(first), []byte{0, 1, 2, 4}, first)) }},
		{"the first one's places don't rise", func(p *parts) { p.alone(writes(8, hash(first), []byte{0, 2, 1, 3}, first)) }},
		{"the first one's Hash", func(p *parts) { p.alone(writes(8, hash(first)^1, all, first)) }},
		{"the first one tells what 1 doesn't see", func(p *parts) { p.alone(full(changed(0, board.Cell{Value: 1, Seen: 1})...)) }},
		{"the first one tells what nobody sees", func(p *parts) { p.alone(full(changed(3, board.Cell{Value: -4})...)) }},
		{"the first one is longer", func(p *parts) { p.alone(blob(append(p.told[0][1:], 0))) }},
		{"the first one is shorter", func(p *parts) { p.alone(blob(p.told[0][1 : len(p.told[0])-1])) }},
		{"the first one is of the next one's tick", func(p *parts) { p.told[0] = writes(9, hash(first), all, first) }},
		{"the first one, how long in too many bytes", func(p *parts) { p.alone(append([]byte{p.told[0][0] | 0x80, 0}, p.told[0][1:]...)) }},
		{"the first one is missing", func(p *parts) { p.told, p.many = p.told[1:], num(3) }},
		{"the first one comes twice", func(p *parts) { p.told, p.many = append(p.told[:1:1], p.told...), num(5) }},
		{"one is missing", func(p *parts) { p.told, p.many = append(p.told[:1:1], p.told[2:]...), num(3) }},
		{"one comes twice", func(p *parts) { p.told, p.many = append(p.told[:2:2], p.told[1:]...), num(5) }},
		{"two change places", func(p *parts) { p.told[1], p.told[2] = p.told[2], p.told[1] }},
		{"a step is empty", func(p *parts) { p.told[2] = blob(nil) }},
		{"a step of the same tick", func(p *parts) { p.told, p.many = [][]byte{p.told[0], writes(8, hash(first), nil, nil)}, num(2) }},
		{"a step of a tick too far", func(p *parts) { p.told, p.many = [][]byte{p.told[0], writes(10, hash(first), nil, nil)}, num(2) }},
		{"a step of the tick ahead", func(p *parts) { p.told, p.many = [][]byte{p.told[0], writes(7, hash(first), nil, nil)}, num(2) }},
		{"ticks that go round", func(p *parts) {
			p.told, p.many = [][]byte{writes(math.MaxUint32, hash(first), all, first), writes(0, hash(first), nil, nil)}, num(2)
		}},
		{"a step's Hash", func(p *parts) { p.told, p.many = [][]byte{p.told[0], writes(9, hash(first)^1, nil, nil)}, num(2) }},
		{"a step of a cell that there isn't", func(p *parts) {
			p.told, p.many = [][]byte{p.told[0], writes(9, hash(first), []byte{4}, []board.Cell{{}})}, num(2)
		}},
		{"a step of a far cell", func(p *parts) {
			p.told, p.many = [][]byte{p.told[0], writes(9, hash(first), []byte{48}, []board.Cell{{}})}, num(2)
		}},
		{"a step whose places don't rise", func(p *parts) {
			p.told, p.many = [][]byte{p.told[0], writes(9, hash(first), []byte{1, 0}, []board.Cell{first[1], first[0]})}, num(2)
		}},
		{"a step of a place twice", func(p *parts) {
			p.told, p.many = [][]byte{p.told[0], writes(9, hash(first), []byte{1, 1}, []board.Cell{first[1], first[1]})}, num(2)
		}},
		{"a step tells what 1 doesn't see", func(p *parts) { p.told, p.many = [][]byte{p.told[0], step(0, board.Cell{Value: 7, Seen: 1})}, num(2) }},
		{"a step tells what nobody sees", func(p *parts) { p.told, p.many = [][]byte{p.told[0], step(3, board.Cell{Value: 7})}, num(2) }},
		{"a step tells what 1 sees no more", func(p *parts) { p.told, p.many = [][]byte{p.told[0], step(1, board.Cell{Value: 2, Seen: 1})}, num(2) }},
		{"a step is longer", func(p *parts) { p.told[1] = blob(append(p.told[1][1:], 0)) }},
		{"a step is shorter", func(p *parts) { p.told[1] = blob(p.told[1][1 : len(p.told[1])-1]) }},
		{"a step of 2^64 - 1 bytes", func(p *parts) { p.told[3] = append(num(math.MaxUint64), p.told[3][1:]...) }},
		{"a step, how long in too many bytes", func(p *parts) { p.told[3] = append([]byte{p.told[3][0] | 0x80, 0}, p.told[3][1:]...) }},
	} {
		p := good()
		x.change(&p)
		mustNotRead(t, x.name, p.bytes(), api.ErrForm)
	}
}

// TestWrongTapesOfNoCells: the sum of no cells is 0, as is that of a Delta that there isn't.
func TestWrongTapesOfNoCells(t *testing.T) {
	p := parts{magic: Magic, game: blob(plain(1).Bytes())}
	none := writes(0, 0, nil, nil)
	p.alone(none)
	if r, e := Read(p.bytes()); e != api.OK || r.Len() != 1 {
		t.Fatal(e)
	}
	for _, told := range [][]byte{
		blob(nil), {}, none[:9], blob(none[1:9]), blob(append(none[1:], 0)), writes(0, 1, nil, nil),
		writes(0, hash([]board.Cell{{}}), []byte{0}, []board.Cell{{}}), writes(0, 0, []byte{0}, []board.Cell{{}}),
	} {
		p.alone(told)
		mustNotRead(t, told, p.bytes(), api.ErrForm)
	}
}

// TestOtherTapes: what may be otherwise, and is read.
func TestOtherTapes(t *testing.T) {
	first := []board.Cell{{Seen: 1}, {Value: 2, Seen: 3}, {Value: 3, Seen: 2}, {}}
	for _, x := range []struct {
		name   string
		change func(p *parts)
		views  int
	}{
		{"the first one alone", func(p *parts) { p.told, p.many = p.told[:1], num(1) }, 1},
		{"fewer views", func(p *parts) { p.told, p.many = p.told[:3], num(3) }, 3},
		{"the last tick", func(p *parts) {
			p.told, p.many = [][]byte{writes(math.MaxUint32-1, hash(first), []byte{0, 1, 2, 3}, first), writes(math.MaxUint32, hash(first), nil, nil)}, num(2)
		}, 2},
		{"a step of all places", func(p *parts) { p.told[2] = writes(10, hashOf(p, 1), []byte{0, 3}, []board.Cell{{Seen: 1}, {}}) }, 4},
		{"labels of nobody", func(p *parts) {
			l := slices.Clone(first)
			l[3].Seen = 1 << 31
			p.told, p.many = [][]byte{p.told[0], writes(9, hash(l), []byte{3}, l[3:])}, num(2)
		}, 2},
		{"another game of as many cells", func(p *parts) {
			p.game = blob(plain(32, make([]board.Cell, 4)...).Bytes())
		}, 4},
	} {
		p := good()
		x.change(&p)
		r, e := Read(p.bytes())
		if e != api.OK || r.Len() != x.views {
			t.Errorf("%s: %v", x.name, e)
		}
	}
}

// hashOf is what is told of the view at the place i.
func hashOf(p *parts, i int) uint32 { return binary.LittleEndian.Uint32(p.told[i][5:]) }

// TestCutShort: each beginning of a tape, sealed and not, and each with more behind it.
func TestCutShort(t *testing.T) {
	p := good().bytes()
	inner := p[:len(p)-4]
	for n := range inner {
		mustNotRead(t, n, sealed(inner[:n]), api.ErrForm)
		mustNotRead(t, n, sealed(inner[n+1:]), api.ErrForm)
	}
	for n := range p {
		want := api.ErrSum
		if n < 4 {
			want = api.ErrForm
		}
		mustNotRead(t, n, p[:n], want)
	}
	for b := range 256 {
		mustNotRead(t, b, sealed(inner, []byte{byte(b)}), api.ErrForm)
		mustNotRead(t, b, append(slices.Clone(p), byte(b)), api.ErrSum)
	}
	mustNotRead(t, "nothing", nil, api.ErrForm)
	mustNotRead(t, "nothing", []byte{}, api.ErrForm)
	mustNotRead(t, "nothing, sealed", sealed(), api.ErrForm)
	mustNotRead(t, "four bytes", []byte{1, 2, 3, 4}, api.ErrSum)
}

// TestSpoilt: each bit, and each 32 in a row, in some ways.
func TestSpoilt(t *testing.T) {
	p := good().bytes()
	rolls := rand.New(rand.NewSource(1))
	for bit := range uint16(len(p) * 8) {
		for _, m := range []uint32{1, math.MaxUint32, rolls.Uint32() | 1} {
			mustNotRead(t, []any{bit, m}, wire.Spoil(p, wire.Fault{At: bit, Mask: m}), api.ErrSum)
		}
	}
}

// rebuilt answers the bytes of the tape that is told of in p, if there is one: New and Add are asked, whatever sums and Hashes p has.
func rebuilt(p []byte) []byte {
	if len(p) < 12 || string(p[:8]) != Magic {
		return nil
	}
	rest := p[8 : len(p)-4]
	next := func(most int) []byte { // a Blob's bytes
		n, used := binary.Uvarint(rest)
		if used <= 0 || n > uint64(len(rest)-used) {
			return nil
		}
		b := rest[used : used+int(n)]
		rest = rest[used+int(n):]
		return b
	}
	g, e := rules.Parse(next(len(rest)))
	if e != api.OK || len(rest) == 0 {
		return nil
	}
	o := int(rest[0])
	many, used := binary.Uvarint(rest[1:])
	if used <= 0 {
		return nil
	}
	rest = rest[1+used:]
	var tape *Tape
	var s rules.State
	for range min(many, 1<<17) {
		d, e := delta.Parse(next(len(rest)))
		if e != api.OK {
			return nil
		}
		touched := uint64(0)
		for i, place := range d.Places {
			touched |= 1 << place
			s.Board, _ = s.Board.Put(int(place), d.Cells[i])
		}
		s.Tick = d.Tick
		if tape == nil {
			s.Board, _ = board.New(d.Cells...)
			if tape = New(g, o, s); tape == nil {
				return nil
			}
		} else if tape.Add(s, touched) != api.OK {
			return nil
		}
	}
	return tape.Bytes()
}

// mustBeOfATape holds Read to whether Bytes makes p of some tape.
func mustBeOfATape(t *testing.T, what any, p []byte) bool {
	t.Helper()
	want := api.ErrForm
	if bytes.Equal(rebuilt(p), p) {
		want = api.OK
	}
	r, e := Read(p)
	if e != want || (r != nil) != (want == api.OK) {
		t.Fatalf("%v: %v, not %v, of %x", what, e, want, p)
	}
	return want == api.OK
}

// recorded answers the bytes of a tape of a mixed game.
func recorded(t *testing.T, rolls *rand.Rand) []byte {
	t.Helper()
	g := mixed(rolls)
	s, _ := g.Start(rolls.Uint64(), values(rolls, rolls.Intn(20)))
	x := made(t, g, rolls.Intn(g.Observers), s)
	for range rolls.Intn(8) {
		next, came := g.Step(s, moves(rolls, g))
		mustAdd(t, "a step", x, next, came.Touched, api.OK)
		s = next
	}
	return x.Bytes()
}

// TestNothingElseIsRead: tapes in which some bytes are others, or gone, or new, and which are sealed.
func TestNothingElseIsRead(t *testing.T) {
	right := 0
	for seed := range int64(150) {
		rolls := rand.New(rand.NewSource(seed))
		p := recorded(t, rolls)
		if !mustBeOfATape(t, seed, p) {
			t.Fatal("no tape")
		}
		inner := p[:len(p)-4]
		for n := range 300 {
			q := slices.Clone(inner)
			for range 1 + rolls.Intn(3) {
				i := rolls.Intn(len(q))
				switch rolls.Intn(6) {
				case 0:
					q[i] = byte(rolls.Uint32())
				case 1:
					q[i] ^= 1 << rolls.Intn(8)
				case 2:
					q[i] = byte(rolls.Intn(3)) - 1
				case 3:
					q = slices.Insert(q, i, byte(rolls.Intn(4)))
				case 4:
					q = slices.Delete(q, i, min(len(q), i+1+rolls.Intn(9)))
				case 5:
					j := i + rolls.Intn(len(q)-i)
					q = slices.Insert(q, i, q[i:j]...)
				}
				if len(q) == 0 {
					q = []byte{0}
				}
			}
			if mustBeOfATape(t, []any{seed, n}, sealed(q)) {
				right++
			}
		}
	}
	if right < 300 {
		t.Errorf("%d others are tapes: too few tell nothing", right)
	}
}

// TestOtherDeltas: tapes in which some Deltas are others, but for their Hashes, which are those of what they make.
func TestOtherDeltas(t *testing.T) {
	right, wrong := 0, 0
	for seed := range int64(4000) {
		rolls := rand.New(rand.NewSource(seed))
		r := mustRead(t, recorded(t, rolls))
		g := r.Game()
		told := []byte{}
		var cells []board.Cell
		for i, view := range r.Views() {
			want := view.Board.Cells()
			var places []byte
			for place := range want {
				if i == 0 || rolls.Intn(2) == 0 || slices.Contains(r.Changed(i), place) {
					places = append(places, byte(place))
				}
			}
			if rolls.Intn(8) == 0 {
				place := rolls.Intn(len(want))
				want[place] = board.Cell{Value: int32(rolls.Intn(3)), Seen: mask.Mask(rolls.Uint32()) >> rolls.Intn(32)}
			}
			if rolls.Intn(30) == 0 && len(places) > 0 {
				n := rolls.Intn(len(places))
				places = slices.Delete(places, n, n+1)
			}
			tick := view.Tick
			if rolls.Intn(30) == 0 {
				tick += uint32(rolls.Intn(3)) - 1
			}
			if i == 0 {
				cells = slices.Clone(want)
			}
			var these []board.Cell
			for _, place := range places {
				cells[place] = want[place]
				these = append(these, want[place])
			}
			told = append(told, writes(tick, hash(cells), places, these)...)
		}
		p := sealed([]byte(Magic), blob(g.Bytes()), []byte{byte(r.Observer())}, num(uint64(r.Len())), told)
		if mustBeOfATape(t, seed, p) {
			right++
		} else {
			wrong++
		}
	}
	if right < 800 || wrong < 800 {
		t.Errorf("%d may be, %d may not: too few tell nothing", right, wrong)
	}
}

// P20.2: views, and what changed

// TestWhoStops gets no more, and may go through all again.
func TestWhoStops(t *testing.T) {
	g := game(3, 2)
	s := begun(t, g)
	x := made(t, g, 0, s)
	for range 9 {
		next, came := g.Step(s, nil)
		mustAdd(t, "a step", x, next, came.Touched, api.OK)
		s = next
	}
	r := mustRead(t, x.Bytes())
	all := r.Views()
	for stop := range 12 {
		n := 0
		all(func(i int, view rules.State) bool {
			if want, ok := r.View(n); i != n || view != want || !ok {
				t.Fatal(stop, i, n)
			}
			n++
			return n < stop
		})
		if n != min(max(1, stop), 10) {
			t.Fatalf("%d are told, stopped behind %d", n, stop)
		}
	}
	pairs := 0
	for i := range all {
		for j := range all {
			if j > i {
				break
			}
			pairs++
		}
	}
	if pairs != 55 {
		t.Errorf("%d pairs are told", pairs)
	}
}

// TestChanged: values, labels, both, none; rising.
func TestChanged(t *testing.T) {
	seen, hidden := board.Cell{Value: 1, Seen: 3}, board.Cell{Value: 2, Seen: 1}
	g := plain(2, seen, hidden, seen, hidden)
	s := begun(t, g)
	x := made(t, g, 1, s)
	var want [][]int
	add := func(l []int, cells ...board.Cell) {
		s = at(t, s.Tick+1, cells...)
		mustAdd(t, l, x, s, everywhere, api.OK)
		want = append(want, l)
	}
	want = append(want, nil)
	two := board.Cell{Value: 2, Seen: 3}
	add(nil, seen, hidden, seen, hidden)
	add([]int{2}, seen, hidden, two, hidden)
	add([]int{0, 2}, two, hidden, seen, hidden)
	add(nil, two, board.Cell{Value: 9, Seen: 1}, seen, hidden)
	add([]int{1}, two, board.Cell{Value: 9, Seen: 5}, seen, hidden)
	add([]int{1, 3}, two, board.Cell{Value: 9, Seen: 7}, seen, board.Cell{Seen: 2})
	add([]int{0, 1, 2, 3}, board.Cell{}, board.Cell{}, board.Cell{}, board.Cell{})
	add(nil, board.Cell{Value: 1}, board.Cell{Value: 2}, board.Cell{}, board.Cell{})
	r := mustRead(t, x.Bytes())
	for i, l := range want {
		if got := r.Changed(i); !slices.Equal(got, l) {
			t.Errorf("Changed(%d): %v, not %v", i, got, l)
		}
	}
	for _, i := range []int{-1, -2, math.MinInt, math.MinInt + 1, math.MaxInt, len(want), len(want) + 1} {
		if got := r.Changed(i); len(got) != 0 {
			t.Errorf("Changed(%d): %v", i, got)
		}
	}
}

// P3: who may not see something is told nothing of it

// parted tells whether o was shown values that aren't the same.
func parted(a, b []vm.Show, o int) bool {
	for i := range min(len(a), len(b)) {
		if a[i].To.Has(o) && a[i].Value != b[i].Value {
			return true
		}
	}
	return false
}

// twin answers a state that is alike for o: all that it doesn't see is another.
func twin(rolls *rand.Rand, s rules.State, o int) rules.State {
	for i, c := range s.Board.Cells() {
		if !c.Seen.Has(o) {
			s.Board, _ = s.Board.Put(i, board.Cell{Value: int32(rolls.Uint32()), Seen: c.Seen})
		}
	}
	s.Dice.State = rolls.Uint64()
	return s
}

// TestNothingIsTold: the tapes of unlike secrets are alike, byte by byte, whatever the others do, till one is shown what isn't.
func TestNothingIsTold(t *testing.T) {
	var alike, differ, apart int
	for seed := range int64(800) {
		rolls := rand.New(rand.NewSource(seed))
		g := mixed(rolls)
		o := rolls.Intn(g.Observers)
		s, _ := g.Start(rolls.Uint64(), values(rolls, rolls.Intn(20)))
		other := twin(rolls, s, o)
		x, y := made(t, g, o, s), made(t, g, o, other)
		for range 40 {
			mine, theirs := make([]uint32, g.Players), make([]uint32, g.Players)
			for player := range mine {
				mine[player], theirs[player] = uint32(rolls.Intn(9)), uint32(rolls.Intn(9))
			}
			if o < g.Players {
				theirs[o] = mine[o]
			}
			before := x.Bytes()
			a, came := g.Step(s, mine)
			b, went := g.Step(other, theirs)
			mustAdd(t, seed, x, a, came.Touched, api.OK)
			mustAdd(t, seed, y, b, went.Touched, api.OK)
			if parted(came.Shows, went.Shows, o) {
				apart++
				mustBeTheSameAhead(t, seed, before, x.Bytes(), y.Bytes())
				break
			}
			if !bytes.Equal(x.Bytes(), y.Bytes()) {
				t.Fatalf("%d: at the tick %d the tapes of %d aren't alike", seed, a.Tick, o)
			}
			alike++
			if a.Board != b.Board {
				differ++
			}
			s, other = a, b
		}
	}
	if alike < 8000 || differ < 6000 || apart < 50 {
		t.Errorf("%d alike, %d other boards, %d apart: too few tell nothing", alike, differ, apart)
	}
}

// mustBeTheSameAhead holds two tapes whose last views may not be the same to what stood ahead of that.
func mustBeTheSameAhead(t *testing.T, what any, before, a, b []byte) {
	t.Helper()
	was, x, y := mustRead(t, before), mustRead(t, a), mustRead(t, b)
	for i, view := range was.Views() {
		v, _ := x.View(i)
		w, _ := y.View(i)
		if v != view || w != view {
			t.Fatalf("%v: the view at %d has changed", what, i)
		}
	}
}

// TestWhenASecretIsShown: cell 0 is hidden, and shown to 1 at the tick 9; so the tapes of 1 part there, and those of 0 never.
func TestWhenASecretIsShown(t *testing.T) {
	g := rules.Game{Observers: 2, Players: 1, Moves: 2, Cells: []board.Cell{{}, {Seen: 3}}, Code: []code.Code{
		{Op: code.Clock, A: 1}, {Op: code.Set, A: 2, N: 9}, {Op: code.Xor, A: 3, B: 1, C: 2}, {Op: code.Branch, A: 3, N: 5},
		{Op: code.Stop}, {Op: code.Reveal, B: 7, N: 0, Mask: 2},
	}}
	for o := range 2 {
		s, other := begun(t, g, 5), begun(t, g, 6)
		x, y := made(t, g, o, s), made(t, g, o, other)
		for range 20 {
			a, came := g.Step(s, nil)
			b, went := g.Step(other, nil)
			mustAdd(t, o, x, a, came.Touched, api.OK)
			mustAdd(t, o, y, b, went.Touched, api.OK)
			if same, want := bytes.Equal(x.Bytes(), y.Bytes()), o == 0 || a.Tick < 9; same != want {
				t.Fatalf("at the tick %d the tapes of %d are alike: %v", a.Tick, o, same)
			}
			if len(x.Bytes()) != len(y.Bytes()) {
				t.Fatalf("at the tick %d the tapes of %d haven't as many bytes", a.Tick, o)
			}
			s, other = a, b
		}
		r := mustRead(t, x.Bytes())
		for i, view := range r.Views() {
			want := board.Cell{}
			if i >= 9 {
				want = board.Cell{Value: int32(5 * o), Seen: 2}
			}
			if c, _ := view.Board.At(0); c != want {
				t.Fatalf("%d sees %v at the tick %d", o, c, i)
			}
		}
		if l := r.Changed(9); !slices.Equal(l, []int{0}) {
			t.Error(l)
		}
	}
}

// TestHowManyBytes hang on which cells were touched, on no value.
func TestHowManyBytes(t *testing.T) {
	g := game(3, 3)
	for o := range 3 {
		s := begun(t, g, 77)
		x := made(t, g, o, s)
		size := len(x.Bytes())
		for n := range 100 {
			next, came := g.Step(s, []uint32{uint32(n % 10), uint32(n * n % 10), 3})
			mustAdd(t, n, x, next, came.Touched, api.OK)
			size += 1 + delta.Size(came.Touched, next.Board)
			s = next
		}
		if got := len(x.Bytes()); got != size {
			t.Errorf("%d bytes for %d, not %d", got, o, size)
		}
	}
}

// P5: a replay of what one saw is just the game to it, from the first tick to the last

// seen is a view that a client knew.
type seen struct {
	o    int
	view rules.State
}

// aTurn answers one of some moves, in which some frames go wrong.
func aTurn(rolls *rand.Rand, g rules.Game) world.Turn {
	turn := world.Quiet(g)
	for o := range turn.Acts {
		turn.Acts[o] = client.Act{Join: rolls.Intn(50) == 0, Move: rolls.Intn(int(g.Moves)*2) - int(g.Moves)}
		var to, from []wire.Fault
		for range 20 {
			x := wire.Fault{At: uint16(rolls.Uint32()), Mask: rolls.Uint32()}
			y := x
			if rolls.Intn(3) == 0 {
				x.How, y.How = byte(rolls.Intn(6)), byte(rolls.Intn(6))
			}
			to, from = append(to, x), append(from, y)
		}
		turn.To, turn.From = append(turn.To, to), append(turn.From, from)
	}
	return turn
}

// TestAReplayIsTheGame: the tape of each observer, read again, is the referee's state to it at each tick, and what its client knew of it.
func TestAReplayIsTheGame(t *testing.T) {
	known, changed := 0, 0
	for seed := range int64(60) {
		rolls := rand.New(rand.NewSource(seed))
		g := mixed(rolls)
		w, e := world.New(world.Config{Game: g, Seed: rolls.Uint64(), Hidden: values(rolls, 9), Delays: []int{0, rolls.Intn(16)}})
		if e != api.OK {
			t.Fatal(e)
		}
		past := []rules.State{w.Referee().State()}
		var tapes []*Tape
		for o := range g.Observers {
			tapes = append(tapes, made(t, g, o, past[0]))
		}
		var knew []seen
		for now := range 100 {
			turn := aTurn(rolls, g)
			if now == 0 {
				turn = world.Join(g)
			}
			w.Cycle(turn)
			past = append(past, w.Referee().State())
			for o, tape := range tapes {
				if e := tape.Add(w.Referee().State(), w.Referee().Outcome().Touched); e != api.OK {
					t.Fatal(e)
				}
				if c := w.Client(o); c.Phase() == client.Live || c.Phase() == client.Stale {
					knew = append(knew, seen{o, c.Known()})
				}
			}
		}
		var reels []*Reel
		for o, tape := range tapes {
			r := mustRead(t, tape.Bytes())
			if r.Len() != len(past) || r.Observer() != o || !rules.Same(r.Game(), g) {
				t.Fatal(seed, o)
			}
			for i, view := range r.Views() {
				if view != past[i].View(o) {
					t.Fatalf("%d: of the tick %d %d has %v", seed, i, o, view.Board.Cells())
				}
				changed += len(r.Changed(i))
			}
			reels = append(reels, r)
		}
		for _, x := range knew {
			if view, ok := reels[x.o].View(int(x.view.Tick)); !ok || view != x.view {
				t.Fatalf("%d: of the tick %d %d knew something else", seed, x.view.Tick, x.o)
			}
		}
		known += len(knew)
	}
	if known < 6000 || changed < 10000 {
		t.Errorf("%d known, %d changed: too few tell nothing", known, changed)
	}
}

// TestAClientsOwnTape: of the views that it was told it is the same as of the states.
func TestAClientsOwnTape(t *testing.T) {
	for seed := range int64(40) {
		rolls := rand.New(rand.NewSource(seed))
		g := mixed(rolls)
		w, _ := world.New(world.Config{Game: g, Seed: rolls.Uint64(), Hidden: values(rolls, 9)})
		w.Cycle(world.Join(g))
		state, touched := w.Referee().State(), uint64(0)
		var own, its []*Tape
		for now := range 60 {
			turn := world.Quiet(g)
			for o := range g.Players {
				turn.Acts[o].Move = rolls.Intn(int(g.Moves))
			}
			w.Cycle(turn)
			for o := range g.Observers {
				c := w.Client(o)
				if c.Phase() != client.Live || c.Known().Tick != state.Tick {
					t.Fatal("not live")
				}
				if now == 0 {
					own, its = append(own, made(t, g, o, c.Known())), append(its, made(t, g, o, state))
					continue
				}
				mustAdd(t, seed, own[o], c.Known(), touched, api.OK)
				mustAdd(t, seed, its[o], state, touched, api.OK)
			}
			state, touched = w.Referee().State(), w.Referee().Outcome().Touched
		}
		for o := range own {
			if !bytes.Equal(own[o].Bytes(), its[o].Bytes()) || own[o].Len() != 60 {
				t.Fatalf("%d: %d's own tape is another", seed, o)
			}
		}
	}
}

// TestStepsWithErrors leave the board, and go on.
func TestStepsWithErrors(t *testing.T) {
	g := rules.Game{Observers: 1, Players: 1, Moves: 9, Cells: []board.Cell{{Seen: 1}}, Code: []code.Code{
		{Op: code.Set, A: 1, N: 5}, {Op: code.Store, A: 1}, {Op: code.Roll, A: 2, N: 9}, {Op: code.Branch, A: 2},
	}}
	s := begun(t, g)
	x := made(t, g, 0, s)
	for range 5 {
		next, came := g.Step(s, nil)
		if came.Err != api.ErrTaint {
			t.Fatal(came.Err)
		}
		mustAdd(t, "a step with an error", x, next, came.Touched, api.OK)
		s = next
	}
	for i, view := range mustRead(t, x.Bytes()).Views() {
		if view.Tick != uint32(i) || view.Board != s.Board {
			t.Error(i, view)
		}
	}
}

// Nil objects, and the rules of memory, values and objects

func TestNilTapesAndReels(t *testing.T) {
	var x *Tape
	for _, s := range []rules.State{{}, {Tick: 1}, {Tick: math.MaxUint32}} {
		for _, touched := range []uint64{0, 1, everywhere} {
			if e := x.Add(s, touched); e != api.ErrNone {
				t.Error(e)
			}
		}
	}
	if x.Bytes() != nil || x.Len() != 0 {
		t.Error(x.Bytes(), x.Len())
	}
	var r *Reel
	if !rules.Same(r.Game(), rules.Game{}) || r.Observer() != 0 || r.Len() != 0 {
		t.Error(r.Game(), r.Observer(), r.Len())
	}
	for _, i := range []int{0, 1, -1, math.MaxInt, math.MinInt} {
		if view, ok := r.View(i); ok || view != (rules.State{}) || len(r.Changed(i)) != 0 {
			t.Error(i, view, ok, r.Changed(i))
		}
	}
	for i := range r.Views() {
		t.Error(i)
	}
}

// TestZeroOnesDoNotPanic, though nothing else is promised of them.
func TestZeroOnesDoNotPanic(t *testing.T) {
	g := game(3, 2)
	for _, s := range []rules.State{{}, {Tick: 1}, begun(t, g), {Tick: 1, Board: begun(t, g).Board}} {
		var x Tape
		x.Add(s, everywhere)
		x.Bytes()
		x.Len()
	}
	var r Reel
	r.Game()
	r.Observer()
	r.Len()
	for i := range r.Views() {
		t.Error(i)
	}
	for i := -2; i < 3; i++ {
		r.View(i)
		r.Changed(i)
	}
}

// roomy answers a copy of a list with spare room, which holds zeros.
func roomy[T any](l []T) []T { return append(make([]T, 0, len(l)+3), l...) }

// mustBeSpare holds a list's spare room to what it was.
func mustBeSpare[T comparable](t *testing.T, l []T) {
	t.Helper()
	var zero T
	for _, x := range l[len(l):cap(l)] {
		if x != zero {
			t.Fatalf("%v in the spare room", x)
		}
	}
}

// scribble writes over memory up to its spare room.
func scribble[T any](l []T, with T) {
	l = l[:cap(l)]
	for i := range l {
		l[i] = with
	}
}

// TestNothingThatIsHandedInIsKept writes over all of it, up to its spare room.
func TestNothingThatIsHandedInIsKept(t *testing.T) {
	rolls := rand.New(rand.NewSource(4))
	for range 50 {
		g := mixed(rolls)
		s, _ := g.Start(1, nil)
		own := g
		own.Cells, own.Code = roomy(g.Cells), roomy(g.Code)
		x, by := made(t, own, 0, s), saying(g, 0, s)
		if !rules.Same(own, g) {
			t.Fatal("what is handed in is changed")
		}
		mustBeSpare(t, own.Cells)
		mustBeSpare(t, own.Code)
		scribble(own.Cells, board.Cell{Value: 99, Seen: math.MaxUint32})
		scribble(own.Code, code.Code{Op: 255})
		mustBeSaid(t, "a game that is written over", x, by)
		p := roomy(x.Bytes())
		r, e := Read(p)
		if e != api.OK || !bytes.Equal(p, x.Bytes()) {
			t.Fatal("what is handed in is changed")
		}
		mustBeSpare(t, p)
		scribble(p, 0xee)
		mustView(t, "bytes that are written over", r, by.views...)
		if !rules.Same(r.Game(), g) {
			t.Fatal("another game")
		}
	}
}

// TestAnswersShareNoMemory writes over answers, up to their spare room: others, and what comes, stay.
func TestAnswersShareNoMemory(t *testing.T) {
	rolls := rand.New(rand.NewSource(5))
	for range 50 {
		g := mixed(rolls)
		s, _ := g.Start(1, nil)
		x, by := made(t, g, 0, s), saying(g, 0, s)
		for range 20 {
			next, came := g.Step(s, moves(rolls, g))
			p, q := x.Bytes(), x.Bytes()
			scribble(p, 0xee)
			if !bytes.Equal(q, by.bytes()) {
				t.Fatal("two answers share memory")
			}
			mustAdd(t, "behind that", x, next, came.Touched, by.add(next, came.Touched))
			scribble(q, 0xee)
			s = next
		}
		mustBeSaid(t, "answers that are written over", x, by)
		r := mustRead(t, x.Bytes())
		a, b := r.Game(), r.Game()
		scribble(a.Cells, board.Cell{Value: 99, Seen: math.MaxUint32})
		scribble(a.Code, code.Code{Op: 255})
		if !rules.Same(b, g) || !rules.Same(r.Game(), g) {
			t.Fatal("two games share memory")
		}
		for i := range r.Len() {
			l, m := r.Changed(i), r.Changed(i)
			scribble(l, -1)
			if !slices.Equal(m, by.changed(i)) || !slices.Equal(r.Changed(i), by.changed(i)) {
				t.Fatal("two lists of places share memory")
			}
		}
		mustView(t, "behind all that", r, by.views...)
	}
}

// TestTapesHangOnThemselvesAlone: of one game each goes its own way; of a tape that goes on, the reel stays.
func TestTapesHangOnThemselvesAlone(t *testing.T) {
	g := game(3, 2)
	s := begun(t, g)
	x, other := made(t, g, 0, s), made(t, g, 0, s)
	by := saying(g, 0, s)
	r := mustRead(t, x.Bytes())
	for n := range 20 {
		next, came := g.Step(s, []uint32{uint32(n % 10)})
		mustAdd(t, n, x, next, came.Touched, api.OK)
		by.add(next, came.Touched)
		s = next
	}
	mustView(t, "the reel of the first one", r, by.views[0])
	if other.Len() != 1 {
		t.Error(other.Len())
	}
	mustBeSaid(t, "the one that went on", x, by)
}
