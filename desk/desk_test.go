package desk

import (
	"math"
	"math/rand"
	"slices"
	"testing"

	"hoodwink/api"
	"hoodwink/board"
	"hoodwink/code"
	"hoodwink/rules"
)

// game answers one of so many players, with ten moves, of which 7 is the default.
func game(players int) rules.Game {
	return rules.Game{Observers: 6, Players: players, Moves: 10, Default: 7}
}

// wrong are games that aren't Right, each in one thing alone.
func wrong() []rules.Game {
	return []rules.Game{
		{},
		{Observers: 2, Moves: 10, Default: 7},
		{Observers: 2, Players: -1, Moves: 10, Default: 7},
		{Observers: 2, Players: 3, Moves: 10, Default: 7},
		{Observers: 8, Players: 7, Moves: 10, Default: 7},
		{Observers: 33, Players: 2, Moves: 10, Default: 7},
		{Observers: math.MaxInt, Players: math.MaxInt, Moves: 10, Default: 7},
		{Observers: math.MinInt, Players: math.MinInt, Moves: 10, Default: 7},
		{Observers: 2, Players: 2},
		{Observers: 2, Players: 2, Moves: 10, Default: 10},
		{Observers: 2, Players: 2, Moves: 10, Default: 7, Cells: make([]board.Cell, 49)},
		{Observers: 2, Players: 2, Moves: 10, Default: 7, Cells: []board.Cell{{Seen: 4}}},
		{Observers: 2, Players: 2, Moves: 10, Default: 7, Code: []code.Code{{Op: code.Move, N: 2}}},
	}
}

// noPlayers are such as no game of so many players has.
func noPlayers(players int) []int {
	return []int{players, players + 1, 6, 7, 31, 32, 255, 256, 257, math.MaxInt32, 1 << 32, 1<<32 + 1, math.MaxInt, -1, -2, -256, math.MinInt32, math.MinInt}
}

// behind answers a desk of which so many ticks were taken.
func behind(t *testing.T, g rules.Game, ticks int) *Desk {
	t.Helper()
	d := New(g)
	for range ticks {
		d.Take()
	}
	if d.Tick() != uint32(ticks) {
		t.Fatalf("%d Takes: Tick %d", ticks, d.Tick())
	}
	return d
}

// mustPut holds a Put to its answer.
func mustPut(t *testing.T, d *Desk, player int, tick, move uint32, want api.Errno) {
	t.Helper()
	if got := d.Put(player, tick, move); got != want {
		t.Fatalf("Put(%d, %d, %d) at the tick %d: %v, not %v", player, tick, move, d.Tick(), got, want)
	}
}

// mustTake holds a Take to its answer: Tick is one more.
func mustTake(t *testing.T, d *Desk, want ...uint32) {
	t.Helper()
	tick := d.Tick() + 1
	if got := d.Take(); !slices.Equal(got, want) || d.Tick() != tick {
		t.Fatalf("Take: %v, Tick %d, not %v, %d", got, d.Tick(), want, tick)
	}
}

// mustHold holds the ticks of a player's moves to those that they should be.
func mustHold(t *testing.T, d *Desk, player int, want ...uint32) {
	t.Helper()
	if got := d.Held(player); !slices.Equal(got, want) {
		t.Fatalf("Held(%d) at the tick %d: %v, not %v", player, d.Tick(), got, want)
	}
}

// mustDrop holds a Drop to how many moves were gone.
func mustDrop(t *testing.T, d *Desk, player, want int) {
	t.Helper()
	if got := d.Drop(player); got != want {
		t.Fatalf("Drop(%d): %d, not %d", player, got, want)
	}
}

// P14.1: New, Take

func TestANewDesk(t *testing.T) {
	for players := 1; players <= 6; players++ {
		d := New(game(players))
		if d.Tick() != 0 {
			t.Errorf("Tick %d", d.Tick())
		}
		for player := range 6 {
			mustHold(t, d, player)
			mustDrop(t, d, player, 0)
		}
		for range 20 {
			mustTake(t, d, slices.Repeat([]uint32{7}, players)...)
		}
	}
}

func TestTheExample(t *testing.T) {
	d := New(game(1))
	mustPut(t, d, 0, 1, 2, api.OK)
	mustTake(t, d, 2)
	mustPut(t, d, 0, 1, 2, api.ErrLate)
}

// TestEachPlayerHasItsOwn gives each player another move, and none to some.
func TestEachPlayerHasItsOwn(t *testing.T) {
	for players := 1; players <= 6; players++ {
		for have := range 1 << players {
			d := New(game(players))
			want := slices.Repeat([]uint32{7}, players)
			for player := players - 1; player >= 0; player-- {
				if have>>player%2 == 1 {
					mustPut(t, d, player, 1, uint32(player), api.OK)
					want[player] = uint32(player)
				}
			}
			mustTake(t, d, want...)
			mustTake(t, d, slices.Repeat([]uint32{7}, players)...)
		}
	}
}

// TestEachTickHasItsOwn puts moves for all ticks that may be, in mixed order.
func TestEachTickHasItsOwn(t *testing.T) {
	rolls := rand.New(rand.NewSource(1))
	for range 200 {
		d := New(game(2))
		for _, i := range rolls.Perm(8) {
			mustPut(t, d, 0, uint32(i)+1, uint32(i), api.OK)
			mustPut(t, d, 1, uint32(i)+1, 9-uint32(i), api.OK)
		}
		for i := range uint32(8) {
			mustTake(t, d, i, 9-i)
		}
		mustTake(t, d, 7, 7)
	}
}

// TestWhatIsTakenIsGone, and nothing else is.
func TestWhatIsTakenIsGone(t *testing.T) {
	d := New(game(3))
	mustPut(t, d, 0, 1, 1, api.OK)
	mustPut(t, d, 0, 2, 2, api.OK)
	mustPut(t, d, 2, 1, 3, api.OK)
	mustPut(t, d, 2, 4, 4, api.OK)
	mustTake(t, d, 1, 7, 3)
	mustHold(t, d, 0, 2)
	mustHold(t, d, 1)
	mustHold(t, d, 2, 4)
	mustTake(t, d, 2, 7, 7)
	mustHold(t, d, 0)
	mustHold(t, d, 2, 4)
	mustTake(t, d, 7, 7, 7)
	mustTake(t, d, 7, 7, 4)
	mustHold(t, d, 2)
	if len(d.moves) != 0 {
		t.Errorf("%v are kept", d.moves)
	}
}

// TestAMoveThatIsTheDefault, and one that is 0, are moves as others are.
func TestAMoveThatIsTheDefault(t *testing.T) {
	d := New(game(2))
	mustPut(t, d, 0, 1, 7, api.OK)
	mustPut(t, d, 1, 1, 0, api.OK)
	mustPut(t, d, 0, 1, 3, api.ErrState)
	mustPut(t, d, 1, 1, 3, api.ErrState)
	mustHold(t, d, 0, 1)
	mustHold(t, d, 1, 1)
	mustTake(t, d, 7, 0)
	mustTake(t, d, 7, 7)
}

// P14.1: Put's errors

func TestNoSuchPlayer(t *testing.T) {
	for players := 1; players <= 6; players++ {
		d := behind(t, game(players), 5)
		for player := range players {
			mustPut(t, d, player, 6, 1, api.OK)
		}
		for _, player := range noPlayers(players) {
			if player >= 0 && player < players {
				continue
			}
			for _, tick := range []uint32{0, 5, 6, 7, 13, 14, math.MaxUint32} {
				for _, move := range []uint32{0, 9, 10, math.MaxUint32} {
					mustPut(t, d, player, tick, move, api.ErrNone)
				}
			}
			mustHold(t, d, player)
			mustDrop(t, d, player, 0)
		}
		mustTake(t, d, slices.Repeat([]uint32{1}, players)...)
	}
}

// TestObserversDoNotPlay: those behind the players are no players.
func TestObserversDoNotPlay(t *testing.T) {
	d := New(rules.Game{Observers: 32, Players: 2, Moves: 3})
	for player := range 33 {
		want := api.ErrNone
		if player < 2 {
			want = api.OK
		}
		mustPut(t, d, player, 1, 2, want)
	}
	mustTake(t, d, 2, 2)
}

func TestMovesThatAreNotLegal(t *testing.T) {
	words := []uint32{0, 1, 2, 3, 9, 10, 11, 255, 256, 65535, 65536, 1<<31 - 1, 1 << 31, 1<<31 + 1, math.MaxUint32 - 1, math.MaxUint32}
	for _, moves := range words[1:] {
		for _, move := range words {
			d := New(rules.Game{Observers: 2, Players: 2, Moves: moves, Default: moves - 1})
			want, taken := api.ErrArg, moves-1
			if move < moves {
				want, taken = api.OK, move
			}
			mustPut(t, d, 1, 1, move, want)
			mustTake(t, d, moves-1, taken)
		}
	}
}

// TestTheTimeOfAMove asks at many ticks for all ticks about.
func TestTheTimeOfAMove(t *testing.T) {
	for now := range uint32(40) {
		for tick := range uint32(60) {
			d := behind(t, game(2), int(now))
			switch {
			case tick <= now:
				mustPut(t, d, 1, tick, 3, api.ErrLate)
				mustHold(t, d, 1)
			case tick > now+8:
				mustPut(t, d, 1, tick, 3, api.ErrEarly)
				mustHold(t, d, 1)
			default:
				mustPut(t, d, 1, tick, 3, api.OK)
				mustHold(t, d, 1, tick)
			}
		}
		d := behind(t, game(2), int(now))
		for _, tick := range []uint32{1<<31 - 1, 1 << 31, 1<<31 + 1, math.MaxUint32 - 8, math.MaxUint32 - 1, math.MaxUint32} {
			mustPut(t, d, 1, tick, 3, api.ErrEarly)
		}
	}
}

// TestATickThatWasEarly may have a move once its time is near.
func TestATickThatWasEarly(t *testing.T) {
	d := New(game(1))
	mustPut(t, d, 0, 9, 3, api.ErrEarly)
	mustTake(t, d, 7)
	mustPut(t, d, 0, 9, 3, api.OK)
	mustPut(t, d, 0, 10, 3, api.ErrEarly)
	for range 7 {
		mustTake(t, d, 7)
	}
	mustTake(t, d, 3)
	mustPut(t, d, 0, 9, 3, api.ErrLate)
}

// TestTheSumDoesNotGoRound asks near the last tick of all.
func TestTheSumDoesNotGoRound(t *testing.T) {
	const last = math.MaxUint32
	for left := range uint32(12) {
		for _, tick := range []uint32{0, 1, 2, 7, 8, 9, 1 << 31, last - left - 1, last - left} {
			d := New(game(1))
			d.tick = last - left
			mustPut(t, d, 0, tick, 3, api.ErrLate)
		}
		for more := uint32(1); more <= left; more++ {
			d := New(game(1))
			d.tick = last - left
			want := api.OK
			if more > 8 {
				want = api.ErrEarly
			}
			mustPut(t, d, 0, last-left+more, 3, want)
		}
	}
}

// TestTheTickGoesRound: at the end of its numbers.
func TestTheTickGoesRound(t *testing.T) {
	d := New(game(1))
	d.tick = math.MaxUint32 - 1
	mustPut(t, d, 0, math.MaxUint32, 3, api.OK)
	mustHold(t, d, 0, math.MaxUint32)
	mustTake(t, d, 3)
	mustPut(t, d, 0, 0, 3, api.ErrLate)
	mustTake(t, d, 7)
	if d.Tick() != 0 {
		t.Fatal(d.Tick())
	}
	mustPut(t, d, 0, 1, 4, api.OK)
	mustTake(t, d, 4)
}

// TestTheFirstMoveStays: for a tick a player has one.
func TestTheFirstMoveStays(t *testing.T) {
	d := behind(t, game(2), 3)
	for tick := uint32(4); tick <= 11; tick++ {
		mustPut(t, d, 0, tick, 1, api.OK)
		mustPut(t, d, 0, tick, 1, api.ErrState)
		mustPut(t, d, 0, tick, 2, api.ErrState)
		mustPut(t, d, 1, tick, 3, api.OK)
		mustPut(t, d, 0, tick, 2, api.ErrState)
		mustPut(t, d, 1, tick, 4, api.ErrState)
	}
	for range 8 {
		mustTake(t, d, 1, 3)
	}
}

// TestTheOrderOfErrors: of those that hold the first one is answered.
func TestTheOrderOfErrors(t *testing.T) {
	d := behind(t, game(2), 5)
	mustPut(t, d, 1, 8, 1, api.OK)
	for i, x := range []struct {
		player     int
		tick, move uint32
		want       api.Errno
	}{
		{2, 6, 1, api.ErrNone},
		{2, 6, 10, api.ErrNone},
		{2, 5, 1, api.ErrNone},
		{2, 14, 1, api.ErrNone},
		{2, 8, 1, api.ErrNone},
		{-1, 5, 10, api.ErrNone},
		{2, 14, 10, api.ErrNone},
		{1, 6, 10, api.ErrArg},
		{1, 5, 10, api.ErrArg},
		{1, 14, 10, api.ErrArg},
		{1, 8, 10, api.ErrArg},
		{1, 5, 1, api.ErrLate},
		{1, 14, 1, api.ErrEarly},
		{1, 8, 1, api.ErrState},
		{0, 8, 1, api.OK},
	} {
		if got := d.Put(x.player, x.tick, x.move); got != x.want {
			t.Errorf("%d: Put(%d, %d, %d): %v, not %v", i, x.player, x.tick, x.move, got, x.want)
		}
	}
	mustHold(t, d, 0, 8)
	mustHold(t, d, 1, 8)
}

// P14.1: Held, Drop, Copy

// TestHeldIsRising, in whatever order moves were put, and however often one asks.
func TestHeldIsRising(t *testing.T) {
	rolls := rand.New(rand.NewSource(2))
	for range 300 {
		now := rolls.Intn(300)
		d := behind(t, game(2), now)
		var want []uint32
		for _, i := range rolls.Perm(8)[:rolls.Intn(9)] {
			tick := uint32(now + 1 + i)
			mustPut(t, d, 1, tick, 2, api.OK)
			want = append(want, tick)
		}
		slices.Sort(want)
		for range 5 {
			mustHold(t, d, 1, want...)
			mustHold(t, d, 0)
		}
	}
}

func TestHeldChangesNothing(t *testing.T) {
	d := New(game(1))
	mustPut(t, d, 0, 1, 3, api.OK)
	mustHold(t, d, 0, 1)
	mustHold(t, d, 0, 1)
	mustPut(t, d, 0, 1, 4, api.ErrState)
	mustTake(t, d, 3)
}

func TestDrop(t *testing.T) {
	for many := range 9 {
		d := behind(t, game(3), 2)
		for i := range many {
			mustPut(t, d, 1, uint32(3+i), 1, api.OK)
		}
		mustPut(t, d, 0, 3, 2, api.OK)
		mustPut(t, d, 2, 4, 3, api.OK)
		mustDrop(t, d, 1, many)
		mustHold(t, d, 1)
		mustDrop(t, d, 1, 0)
		mustHold(t, d, 0, 3)
		mustHold(t, d, 2, 4)
		if d.Tick() != 2 || len(d.moves) != 2 {
			t.Fatalf("Tick %d, %v", d.Tick(), d.moves)
		}
		mustPut(t, d, 1, 3, 5, api.OK)
		mustTake(t, d, 2, 5, 7)
		mustTake(t, d, 7, 7, 3)
		mustDrop(t, d, 0, 0)
	}
}

func TestCopy(t *testing.T) {
	d := behind(t, game(2), 3)
	mustPut(t, d, 0, 4, 1, api.OK)
	mustPut(t, d, 1, 6, 2, api.OK)
	c := d.Copy()
	other := c.Copy()
	for _, x := range []*Desk{d, c, other} {
		if x.Tick() != 3 {
			t.Fatal(x.Tick())
		}
		mustHold(t, x, 0, 4)
		mustHold(t, x, 1, 6)
		mustPut(t, x, 2, 4, 1, api.ErrNone)
		mustPut(t, x, 0, 4, 10, api.ErrArg)
		mustPut(t, x, 0, 3, 9, api.ErrLate)
		mustPut(t, x, 0, 12, 9, api.ErrEarly)
		mustPut(t, x, 0, 4, 9, api.ErrState)
	}
	mustPut(t, d, 0, 5, 3, api.OK)
	mustHold(t, c, 0, 4)
	mustPut(t, c, 0, 5, 4, api.OK)
	mustDrop(t, d, 1, 1)
	mustHold(t, c, 1, 6)
	mustTake(t, c, 1, 7)
	if d.Tick() != 3 {
		t.Fatal(d.Tick())
	}
	mustHold(t, d, 0, 4, 5)
	mustTake(t, d, 1, 7)
	mustTake(t, d, 3, 7)
	mustTake(t, d, 7, 7)
	mustTake(t, c, 4, 7)
	mustTake(t, c, 7, 2)
	mustHold(t, other, 0, 4)
	mustHold(t, other, 1, 6)
	mustDrop(t, other, 0, 1)
	mustTake(t, other, 7, 7)
}

// TestACopyOfAnEmptyDesk takes moves in, too.
func TestACopyOfAnEmptyDesk(t *testing.T) {
	c := New(game(1)).Copy()
	mustPut(t, c, 0, 1, 2, api.OK)
	mustTake(t, c, 2)
	mustTake(t, c, 7)
}

// Games that aren't Right, and a nil desk

func TestGamesThatAreNotRight(t *testing.T) {
	for i, g := range wrong() {
		if g.Right() {
			t.Fatalf("%d is Right", i)
		}
		d := New(g)
		for _, x := range []*Desk{d, d.Copy()} {
			for round := range uint32(3) {
				for _, player := range append(noPlayers(0), 0, 1, 2, 3, 4, 5) {
					for _, tick := range []uint32{0, round, round + 1, round + 8, round + 9, math.MaxUint32} {
						mustPut(t, x, player, tick, 0, api.ErrNone)
						mustPut(t, x, player, tick, 7, api.ErrNone)
						mustPut(t, x, player, tick, math.MaxUint32, api.ErrNone)
					}
					mustHold(t, x, player)
					mustDrop(t, x, player, 0)
				}
				mustTake(t, x)
			}
		}
	}
}

func TestANilDesk(t *testing.T) {
	var d *Desk
	for _, player := range append(noPlayers(2), 0, 1) {
		for _, tick := range []uint32{0, 1, 8, 9, math.MaxUint32} {
			mustPut(t, d, player, tick, 0, api.ErrNone)
			mustPut(t, d, player, tick, math.MaxUint32, api.ErrNone)
		}
		if d.Held(player) != nil || d.Drop(player) != 0 {
			t.Errorf("%d has moves", player)
		}
	}
	for range 3 {
		if d.Take() != nil || d.Tick() != 0 || d.Copy() != nil {
			t.Error("it has something")
		}
	}
}

// P1: no desk panics, the zero one neither.
func TestAZeroDeskDoesNotPanic(t *testing.T) {
	d := new(Desk)
	for _, x := range []*Desk{d, d.Copy()} {
		for _, player := range append(noPlayers(0), 0, 1) {
			x.Put(player, 1, 0)
			x.Held(player)
			x.Drop(player)
			x.Take()
			x.Tick()
		}
	}
}

// P14.1, P2: against the document's words

// said is a desk as the document tells of it: its moves are a list.
type said struct {
	game rules.Game
	tick uint64
	list []entry
}

type entry struct {
	player     int
	tick, move uint64
}

func (s *said) put(player int, tick, move uint32) api.Errno {
	e := entry{player, uint64(tick), uint64(move)}
	switch {
	case player < 0 || player >= s.game.Players:
		return api.ErrNone
	case e.move >= uint64(s.game.Moves):
		return api.ErrArg
	case e.tick <= s.tick:
		return api.ErrLate
	case e.tick > s.tick+8:
		return api.ErrEarly
	case slices.ContainsFunc(s.list, func(x entry) bool { return x.player == player && x.tick == e.tick }):
		return api.ErrState
	}
	s.list = append(s.list, e)
	return api.OK
}

func (s *said) take() []uint32 {
	s.tick++
	l := slices.Repeat([]uint32{s.game.Default}, s.game.Players)
	var left []entry
	for _, x := range s.list {
		if x.tick == s.tick {
			l[x.player] = uint32(x.move)
		} else {
			left = append(left, x)
		}
	}
	s.list = left
	return l
}

func (s *said) held(player int) []uint32 {
	var l []uint32
	for tick := s.tick + 1; tick <= s.tick+8; tick++ {
		for _, x := range s.list {
			if x.player == player && x.tick == tick {
				l = append(l, uint32(tick))
			}
		}
	}
	return l
}

func (s *said) drop(player int) int {
	n := len(s.list)
	s.list = slices.DeleteFunc(s.list, func(x entry) bool { return x.player == player })
	return n - len(s.list)
}

func (s *said) copied() *said {
	return &said{game: s.game, tick: s.tick, list: slices.Clone(s.list)}
}

// mixed answers a game that is Right, of any number of players and moves.
func mixed(rolls *rand.Rand) rules.Game {
	moves := []uint32{1, 2, 3, 10, 1 << 31, math.MaxUint32}[rolls.Intn(6)]
	players := 1 + rolls.Intn(6)
	return rules.Game{Observers: players + rolls.Intn(20), Players: players, Moves: moves, Default: rolls.Uint32() % moves}
}

// some answers a move, mostly one that is Legal.
func some(rolls *rand.Rand, g rules.Game) uint32 {
	switch rolls.Intn(8) {
	case 0:
		return g.Moves
	case 1:
		return rolls.Uint32()
	}
	return rolls.Uint32() % g.Moves
}

func TestItIsAsTheDocumentSays(t *testing.T) {
	errs := map[api.Errno]int{}
	for seed := range int64(120) {
		rolls := rand.New(rand.NewSource(seed))
		g := mixed(rolls)
		desks, wants := []*Desk{New(g)}, []*said{{game: g}}
		for range 1500 {
			i := rolls.Intn(len(desks))
			d, s := desks[i], wants[i]
			player := rolls.Intn(g.Players+2) - 1
			switch n := rolls.Intn(200); {
			case n < 1 && len(desks) < 4:
				desks, wants = append(desks, d.Copy()), append(wants, s.copied())
			case n < 3:
				mustDrop(t, d, player, s.drop(player))
			case n < 30:
				mustTake(t, d, s.take()...)
			default:
				tick := uint32(s.tick) + uint32(rolls.Intn(13)) - 2
				move := some(rolls, g)
				want := s.put(player, tick, move)
				mustPut(t, d, player, tick, move, want)
				errs[want]++
			}
			for i, d := range desks {
				for player := -1; player <= g.Players; player++ {
					mustHold(t, d, player, wants[i].held(player)...)
				}
				if uint64(d.Tick()) != wants[i].tick || len(d.moves) != len(wants[i].list) {
					t.Fatalf("Tick %d, %v, not %d, %v", d.Tick(), d.moves, wants[i].tick, wants[i].list)
				}
			}
		}
	}
	for _, e := range []api.Errno{api.OK, api.ErrNone, api.ErrArg, api.ErrLate, api.ErrEarly, api.ErrState} {
		if errs[e] < 1000 {
			t.Errorf("%v: %d times alone", e, errs[e])
		}
	}
}

// P4: the game is stepped on the moves that came in time, and the default for the others.
func TestTheGameIsTheGame(t *testing.T) {
	g := game(2)
	g.Cells = make([]board.Cell, 2)
	g.Code = []code.Code{
		{Op: code.Move, A: 1, N: 0}, {Op: code.Store, A: 1, N: 0},
		{Op: code.Move, A: 1, N: 1}, {Op: code.Store, A: 1, N: 1},
	}
	s, e := g.Start(1, nil)
	if e != api.OK {
		t.Fatal(e)
	}
	d := New(g)
	mustPut(t, d, 0, 1, 3, api.OK)
	mustPut(t, d, 1, 2, 4, api.OK)
	mustPut(t, d, 1, 3, 10, api.ErrArg)
	for tick, want := range [][]int32{{3, 7}, {7, 4}, {7, 7}, {7, 5}} {
		if tick == 3 {
			mustPut(t, d, 0, 3, 5, api.ErrLate)
			mustPut(t, d, 1, 4, 5, api.OK)
		}
		s, _ = g.Step(s, d.Take())
		cells := s.Board.Cells()
		if cells[0].Value != want[0] || cells[1].Value != want[1] || s.Tick != d.Tick() {
			t.Fatalf("tick %d: %v, not %v", d.Tick(), cells, want)
		}
	}
}

// The rules of memory, and objects.

// TestNothingOfTheGameIsKept writes over the lists that were handed in.
func TestNothingOfTheGameIsKept(t *testing.T) {
	g := game(2)
	cells, l := []board.Cell{{Value: 1, Seen: 3}, {Value: 2}}, []code.Code{{Op: code.Load, N: 1}, {Op: code.Move, N: 1}}
	g.Cells, g.Code = cells[:1:2], l[:0:2]
	d := New(g)
	if cells[0] != (board.Cell{Value: 1, Seen: 3}) || cells[1] != (board.Cell{Value: 2}) || l[0] != (code.Code{Op: code.Load, N: 1}) || l[1] != (code.Code{Op: code.Move, N: 1}) {
		t.Error("what was handed in is changed")
	}
	cells[0].Seen, l[0].Op = math.MaxUint32, 255
	g.Players, g.Moves, g.Default = 1, 1, 0
	if d.game.Cells != nil || d.game.Code != nil {
		t.Error("what was handed in is kept")
	}
	mustPut(t, d, 1, 1, 9, api.OK)
	mustTake(t, d.Copy(), 7, 9)
	mustTake(t, d, 7, 9)
}

func TestAnswersShareNoMemory(t *testing.T) {
	overwrite := func(l []uint32) {
		for i := range l[:cap(l)] {
			l[:cap(l)][i] ^= 0xeeeeeeee
		}
	}
	d := New(game(2))
	for tick := uint32(1); tick <= 8; tick++ {
		mustPut(t, d, 0, tick, tick, api.OK)
	}
	held, again := d.Held(0), d.Held(0)
	overwrite(held)
	if !slices.Equal(again, []uint32{1, 2, 3, 4, 5, 6, 7, 8}) {
		t.Error("two answers of Held share their memory")
	}
	overwrite(again)
	mustHold(t, d, 0, 1, 2, 3, 4, 5, 6, 7, 8)
	one := d.Take()
	two := d.Take()
	overwrite(one)
	if !slices.Equal(two, []uint32{2, 7}) {
		t.Error("two answers of Take share their memory")
	}
	overwrite(two)
	mustTake(t, d, 3, 7)
	mustHold(t, d, 0, 4, 5, 6, 7, 8)
}

func TestDesksHangOnThemselvesAlone(t *testing.T) {
	g := game(2)
	a, b := New(g), New(g)
	mustPut(t, a, 0, 1, 1, api.OK)
	mustPut(t, b, 0, 1, 2, api.OK)
	mustPut(t, b, 1, 1, 3, api.OK)
	mustTake(t, a, 1, 7)
	mustHold(t, b, 0, 1)
	mustDrop(t, b, 1, 1)
	mustTake(t, b, 2, 7)
}
