package clip

import (
	"bytes"
	"math"
	"math/rand"
	"slices"
	"testing"

	"hoodwink/api"
)

// many answers so many bytes, each piece of them another one.
func many(size int) []byte {
	p := make([]byte, size)
	for i := range p {
		p[i] = byte(i*7+i/64) | 1
	}
	return p
}

// split answers the pieces of so many bytes.
func split(t *testing.T, size int) []Piece {
	t.Helper()
	l, e := Split(many(size))
	if e != api.OK {
		t.Fatalf("%d bytes: %v", size, e)
	}
	return l
}

// P12.1: Split

func TestSplitOfAHundredBytes(t *testing.T) {
	l := split(t, 100)
	if len(l) != 2 || len(l[0].Data) != 64 || len(l[1].Data) != 36 {
		t.Fatalf("%v", l)
	}
	if !l[0].First || l[0].Last || l[1].First || !l[1].Last {
		t.Errorf("%v", l)
	}
}

func TestSplitOfAllSizes(t *testing.T) {
	for size := range 1025 {
		p := many(size)
		l, e := Split(p)
		want := 1 // how many pieces there are
		for want*64 < size {
			want++
		}
		if e != api.OK || len(l) != want {
			t.Fatalf("%d bytes: %d pieces, %v", size, len(l), e)
		}
		for i, x := range l {
			end := min(size, i*64+64)
			if !bytes.Equal(x.Data, p[i*64:end]) || x.First != (i == 0) || x.Last != (i == want-1) {
				t.Errorf("%d bytes, piece %d: %v", size, i, x)
			}
		}
	}
}

func TestSplitAtTheEdges(t *testing.T) {
	for _, none := range [][]byte{nil, {}} {
		l, e := Split(none)
		if e != api.OK || len(l) != 1 || !l[0].First || !l[0].Last || len(l[0].Data) != 0 {
			t.Errorf("no bytes: %v, %v", l, e)
		}
	}
	for _, x := range []struct{ size, pieces, last int }{{1, 1, 1}, {63, 1, 63}, {64, 1, 64}, {65, 2, 1}, {128, 2, 64}, {129, 3, 1}, {1023, 16, 63}, {1024, 16, 64}} {
		l := split(t, x.size)
		if len(l) != x.pieces || len(l[len(l)-1].Data) != x.last {
			t.Errorf("%d bytes: %v", x.size, l)
		}
	}
}

func TestSplitOfTooMany(t *testing.T) {
	for _, size := range []int{1025, 1026, 1087, 1088, 1089, 2048, 65536, 65537, 1 << 20} {
		if l, e := Split(many(size)); e != api.ErrLong || l != nil {
			t.Errorf("%d bytes: %d pieces, %v", size, len(l), e)
		}
	}
}

// P12.1: Count

func TestCount(t *testing.T) {
	for size := range 1025 {
		if got := Count(size); got != len(split(t, size)) {
			t.Errorf("%d: %d", size, got)
		}
	}
	for size, want := range map[int]int{0: 1, 1: 1, 63: 1, 64: 1, 65: 2, 127: 2, 128: 2, 129: 3, 960: 15, 961: 16, 1024: 16} {
		if got := Count(size); got != want {
			t.Errorf("%d: %d, not %d", size, got, want)
		}
	}
	for _, size := range []int{-1, -2, -63, -64, -65, -1024, 1025, 1026, 1088, 4096, math.MaxInt32, math.MaxInt, math.MaxInt - 62, math.MinInt, math.MinInt + 1} {
		if got := Count(size); got != 0 {
			t.Errorf("%d: %d, not 0", size, got)
		}
	}
}

// P12.2: a Basket

// mustPut holds a Put to what it should answer.
func mustPut(t *testing.T, what any, b *Basket, x Piece, p []byte, done bool, err api.Errno) {
	t.Helper()
	got, ok, e := b.Put(x)
	if !bytes.Equal(got, p) || ok != done || e != err {
		t.Errorf("%v: %d bytes, %v, %v, not %d bytes, %v, %v", what, len(got), ok, e, len(p), done, err)
	}
	if !ok && got != nil {
		t.Errorf("%v: bytes beside false", what)
	}
}

// mustHold holds a Basket to what it should hold.
func mustHold(t *testing.T, what any, b *Basket, size int) {
	t.Helper()
	if b.Held() != size || b.Open() != (size > 0) {
		t.Errorf("%v: Held %d, Open %v, not %d", what, b.Held(), b.Open(), size)
	}
}

func TestABasketGathersWhatWasSplit(t *testing.T) {
	var b Basket
	mustHold(t, "the zero value", &b, 0)
	for size := range 1025 {
		l := split(t, size)
		for i, x := range l[:len(l)-1] {
			mustPut(t, size, &b, x, nil, false, api.OK)
			mustHold(t, size, &b, i*64+64)
		}
		mustPut(t, size, &b, l[len(l)-1], many(size), true, api.OK)
		mustHold(t, size, &b, 0)
	}
}

func TestAMessageWithoutBytesComes(t *testing.T) {
	var b Basket
	mustPut(t, "nil", &b, Piece{First: true, Last: true}, nil, true, api.OK)
	mustPut(t, "empty", &b, Piece{First: true, Last: true, Data: []byte{}}, nil, true, api.OK)
	mustHold(t, "behind it", &b, 0)
}

// full is a piece of Fragment bytes.
func full(first, last bool) Piece { return Piece{First: first, Last: last, Data: many(64)} }

func TestAFirstWhereSomethingIsBegun(t *testing.T) {
	for _, again := range []Piece{full(true, false), full(true, true), {First: true, Last: true}, {First: true, Last: true, Data: many(3)}} {
		for _, begun := range []int{1, 2, 16} {
			var b Basket
			for i := range begun {
				mustPut(t, i, &b, full(i == 0, false), nil, false, api.OK)
			}
			mustPut(t, "again", &b, again, nil, false, api.ErrForm)
			mustHold(t, "behind it", &b, 0)
			mustLeaveOut(t, &b)
		}
	}
}

func TestOneThatIsNotFirstWhereNothingIs(t *testing.T) {
	for _, x := range []Piece{full(false, false), full(false, true), {Last: true}, {Last: true, Data: many(9)}} {
		var b Basket
		mustPut(t, "at first", &b, x, nil, false, api.ErrForm)
		mustLeaveOut(t, &b)
		mustPut(t, "behind a message", &b, x, nil, false, api.ErrForm)
		mustLeaveOut(t, &b)
	}
}

func TestPiecesOfOtherSizes(t *testing.T) {
	for _, size := range []int{65, 66, 127, 128, 129, 1024, 1025, 5000} {
		for _, last := range []bool{false, true} {
			var b Basket
			mustPut(t, size, &b, Piece{First: true, Last: last, Data: many(size)}, nil, false, api.ErrForm)
			mustLeaveOut(t, &b)
			mustPut(t, size, &b, full(true, false), nil, false, api.OK)
			mustPut(t, size, &b, Piece{Last: last, Data: many(size)}, nil, false, api.ErrForm)
			mustLeaveOut(t, &b)
		}
	}
	for size := range 64 {
		var b Basket
		mustPut(t, size, &b, Piece{First: true, Data: many(size)}, nil, false, api.ErrForm)
		mustLeaveOut(t, &b)
		mustPut(t, size, &b, full(true, false), nil, false, api.OK)
		mustPut(t, size, &b, Piece{Data: many(size)}, nil, false, api.ErrForm)
		mustLeaveOut(t, &b)
	}
}

func TestLastPiecesOfAllSizes(t *testing.T) {
	for size := range 65 {
		var b Basket
		mustPut(t, size, &b, full(true, false), nil, false, api.OK)
		mustPut(t, size, &b, Piece{Last: true, Data: many(size)}, append(many(64), many(size)...), true, api.OK)
		mustHold(t, size, &b, 0)
		mustPut(t, size, &b, Piece{First: true, Last: true, Data: many(size)}, many(size), true, api.OK)
		mustHold(t, size, &b, 0)
	}
}

// longest is a basket that holds as much as it may.
func longest(t *testing.T) *Basket {
	t.Helper()
	var b Basket
	for i := range 16 {
		mustPut(t, i, &b, full(i == 0, false), nil, false, api.OK)
	}
	mustHold(t, "16 pieces", &b, 1024)
	return &b
}

func TestTheLongestMessage(t *testing.T) {
	b := longest(t)
	mustPut(t, "without a byte", b, Piece{Last: true}, bytes.Repeat(many(64), 16), true, api.OK)
	mustHold(t, "behind it", b, 0)
	for _, size := range []int{1, 2, 63, 64} {
		b := longest(t)
		mustPut(t, size, b, Piece{Last: true, Data: many(size)}, nil, false, api.ErrLong)
		mustHold(t, size, b, 0)
		mustLeaveOut(t, b)
	}
	b = longest(t)
	mustPut(t, "not the last one", b, full(false, false), nil, false, api.ErrLong)
	mustLeaveOut(t, b)
	for _, x := range []Piece{{Data: many(63)}, {}, {Last: true, Data: many(65)}, {Data: many(65)}, full(true, true), full(true, false)} { // ErrForm comes ahead of ErrLong
		b := longest(t)
		mustPut(t, x, b, x, nil, false, api.ErrForm)
		mustLeaveOut(t, b)
	}
}

// mustLeaveOut holds a basket to what it should be behind an error: all is left out, up to the next First. It ends with a message that comes.
func mustLeaveOut(t *testing.T, b *Basket) {
	t.Helper()
	for _, x := range []Piece{full(false, false), full(false, true), {Last: true}, {}, {Data: many(3)}, {Data: many(65)}, {Last: true, Data: many(1025)}} {
		mustPut(t, "left out", b, x, nil, false, api.OK)
		mustHold(t, "left out", b, 0)
	}
	for i, x := range []Piece{{First: true}, {First: true, Data: many(63)}, {First: true, Last: true, Data: many(65)}} { // the next First may be wrong
		mustPut(t, i, b, x, nil, false, api.ErrForm)
		mustHold(t, i, b, 0)
		mustPut(t, i, b, full(false, true), nil, false, api.OK)
	}
	mustPut(t, "the next First", b, full(true, false), nil, false, api.OK)
	mustHold(t, "the next First", b, 64)
	mustPut(t, "its end", b, Piece{Last: true, Data: many(2)}, append(many(64), many(2)...), true, api.OK)
	mustHold(t, "its end", b, 0)
}

func TestAMessageOfOnePieceEndsTheLeavingOut(t *testing.T) {
	var b Basket
	mustPut(t, "not First", &b, full(false, false), nil, false, api.ErrForm)
	mustPut(t, "First and Last", &b, Piece{First: true, Last: true, Data: many(5)}, many(5), true, api.OK)
	mustPut(t, "not First", &b, full(false, false), nil, false, api.ErrForm)
}

func TestClear(t *testing.T) {
	var b Basket
	b.Clear()
	mustHold(t, "of nothing", &b, 0)
	mustPut(t, "begun", &b, full(true, false), nil, false, api.OK)
	b.Clear()
	mustHold(t, "what was begun", &b, 0)
	mustPut(t, "begun anew", &b, full(true, false), nil, false, api.OK)
	b.Clear()
	mustPut(t, "it leaves nothing out", &b, full(false, false), nil, false, api.ErrForm)
	mustPut(t, "it leaves out", &b, full(false, false), nil, false, api.OK)
	b.Clear()
	mustPut(t, "it leaves nothing out any more", &b, full(false, false), nil, false, api.ErrForm)
	b.Clear()
	mustPut(t, "a message", &b, Piece{First: true, Last: true, Data: many(5)}, many(5), true, api.OK)
}

func TestANilBasket(t *testing.T) {
	var b *Basket
	b.Clear()
	for _, x := range []Piece{{}, full(true, false), full(true, true), full(false, true), {Data: many(65)}, {First: true, Last: true}} {
		mustPut(t, x, b, x, nil, false, api.ErrNone)
	}
	if b.Open() || b.Held() != 0 {
		t.Error("it holds something")
	}
}

// told is what the document says of a Basket, read word by word.
type told struct {
	begun, leaves bool
	held          []byte
}

func (w *told) put(x Piece) ([]byte, bool, api.Errno) {
	if w.leaves && !x.First {
		return nil, false, api.OK
	}
	err := api.OK
	if len(w.held)+len(x.Data) > 1024 {
		err = api.ErrLong
	}
	if x.First && w.begun || !x.First && !w.begun || len(x.Data) > 64 || !x.Last && len(x.Data) != 64 {
		err = api.ErrForm
	}
	if err != api.OK {
		*w = told{leaves: true}
		return nil, false, err
	}
	*w = told{begun: true, held: slices.Concat(w.held, x.Data)}
	if !x.Last {
		return nil, false, api.OK
	}
	p := w.held
	*w = told{}
	return p, true, api.OK
}

// mustDo does the same with a basket and with what is told of it.
func mustDo(t *testing.T, b *Basket, w *told, x Piece) {
	t.Helper()
	got, ok, e := b.Put(x)
	p, done, err := w.put(x)
	if !bytes.Equal(got, p) || ok != done || e != err || b.Held() != len(w.held) || b.Open() != w.begun {
		t.Fatalf("%v, %v, %d bytes: %d bytes, %v, %v, not %d bytes, %v, %v", x.First, x.Last, len(x.Data), len(got), ok, e, len(p), done, err)
	}
}

// pieces are of all sorts.
func pieces() []Piece {
	var all []Piece
	for _, size := range []int{0, 1, 63, 64, 65} {
		for marks := range 4 {
			all = append(all, Piece{First: marks&1 != 0, Last: marks&2 != 0, Data: many(size)})
		}
	}
	return all
}

// TestAllShortRows puts all rows of four pieces, or Clears among them.
func TestAllShortRows(t *testing.T) {
	all := pieces()
	sorts := len(all) + 1
	for row := range sorts * sorts * sorts * sorts {
		var b Basket
		var w told
		for n := row; n > 0; n /= sorts {
			if n%sorts == 0 {
				b.Clear()
				w = told{}
				continue
			}
			mustDo(t, &b, &w, all[n%sorts-1])
		}
	}
}

func TestLongMixedRows(t *testing.T) {
	dice := rand.New(rand.NewSource(5))
	all := pieces()
	long, messages := 0, 0
	for range 3000 {
		var b Basket
		var w told
		for range 60 {
			x := full(!w.begun, dice.Intn(30) == 0)
			x.Data[dice.Intn(64)] = byte(dice.Intn(256))
			switch dice.Intn(40) {
			case 0:
				x = all[dice.Intn(len(all))]
			case 1:
				x = Piece{Last: true, Data: many(dice.Intn(65))}
			}
			if len(w.held) == 1024 && !x.First {
				long++
			}
			if x.Last {
				messages++
			}
			mustDo(t, &b, &w, x)
		}
	}
	if long < 1000 || messages < 1000 {
		t.Errorf("%d long ones, %d messages", long, messages)
	}
}

// The rules of memory, and objects.

// overwrite writes over all of p, its spare room too.
func overwrite(p []byte) {
	for i := range p[:cap(p)] {
		p[:cap(p)][i] ^= 0xee
	}
}

func TestPiecesShareNoMemory(t *testing.T) {
	p := append(many(200), 1, 2, 3)
	a, _ := Split(p[:200])
	b, _ := Split(p[:200])
	if !bytes.Equal(p, append(many(200), 1, 2, 3)) {
		t.Error("what was handed in is changed")
	}
	overwrite(p)
	was := slices.Clone(p)
	for i, x := range a {
		overwrite(x.Data)
		for j, y := range a {
			if want := many(200)[j*64 : min(200, j*64+64)]; j > i && !bytes.Equal(y.Data, want) {
				t.Errorf("the piece %d shares its memory with %d", i, j)
			}
		}
	}
	for i, x := range b {
		if !bytes.Equal(x.Data, many(200)[i*64:min(200, i*64+64)]) {
			t.Errorf("the piece %d shares its memory with another answer, or with what was split", i)
		}
	}
	for i := range b {
		overwrite(b[i].Data)
	}
	if !bytes.Equal(p, was) {
		t.Error("the pieces share their memory with what was split")
	}
}

func TestABasketSharesNoMemory(t *testing.T) {
	var b Basket
	room := append(many(64), many(64)...)
	first := Piece{First: true, Data: room[:64]}
	mustPut(t, "First", &b, first, nil, false, api.OK)
	if !bytes.Equal(room, append(many(64), many(64)...)) {
		t.Error("what was handed in is changed")
	}
	overwrite(room)
	second := Piece{Last: true, Data: many(9)}
	one, _, _ := b.Put(second)
	overwrite(second.Data)
	want := append(many(64), many(9)...)
	if !bytes.Equal(one, want) {
		t.Error("what was handed in is kept")
	}
	was := slices.Clone(room)
	overwrite(one)
	if !bytes.Equal(room, was) {
		t.Error("the message shares its memory with a piece")
	}
	mustPut(t, "another message", &b, full(true, false), nil, false, api.OK)
	overwrite(one)
	two, _, _ := b.Put(Piece{Last: true, Data: many(9)})
	overwrite(one)
	if !bytes.Equal(two, want) {
		t.Error("two messages share their memory")
	}
	alone := Piece{First: true, Last: true, Data: many(7)}
	three, _, _ := b.Put(alone)
	overwrite(alone.Data)
	if !bytes.Equal(three, many(7)) {
		t.Error("a message of one piece shares its memory with that")
	}
}

func TestBasketsHangOnThemselvesAlone(t *testing.T) {
	var a, b Basket
	mustPut(t, "a", &a, full(true, false), nil, false, api.OK)
	mustHold(t, "b", &b, 0)
	mustPut(t, "b", &b, full(false, false), nil, false, api.ErrForm)
	mustHold(t, "a", &a, 64)
	mustPut(t, "a", &a, Piece{Last: true}, many(64), true, api.OK)
}
