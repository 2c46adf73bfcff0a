package link

import (
	"bytes"
	"math"
	"math/rand"
	"slices"
	"testing"

	"hoodwink/api"
	"hoodwink/clip"
	"hoodwink/frame"
	"hoodwink/order"
	"hoodwink/wax"
)

// many answers so many bytes, each piece of them another one.
func many(size int) []byte {
	p := make([]byte, size)
	for i := range p {
		p[i] = byte(i*7+i/64) | 1
	}
	return p
}

// mustSend sends p, which has room.
func mustSend(t *testing.T, l *Link, p []byte) {
	t.Helper()
	if e := l.Send(p); e != api.OK {
		t.Fatalf("Send of %d bytes: %v", len(p), e)
	}
}

// mustParse reads frames.
func mustParse(t *testing.T, l [][]byte) []frame.Frame {
	t.Helper()
	var all []frame.Frame
	for _, p := range l {
		f, e := frame.Parse(p)
		if e != api.OK {
			t.Fatalf("% x: %v", p, e)
		}
		all = append(all, f)
	}
	return all
}

// numbers answers the numbers of the frames that a Tick tells. None of them is Alone.
func numbers(t *testing.T, l [][]byte) []order.Seq {
	t.Helper()
	var all []order.Seq
	for _, f := range mustParse(t, l) {
		if f.Alone {
			t.Fatal("Alone")
		}
		all = append(all, f.Seq)
	}
	return all
}

// mustTick holds the numbers that a Tick tells to those that it should tell.
func mustTick(t *testing.T, l *Link, now int, want ...order.Seq) {
	t.Helper()
	if got := numbers(t, l.Tick(now)); !slices.Equal(got, want) {
		t.Fatalf("Tick(%d): %v, not %v", now, got, want)
	}
}

// mustTake holds a Take to the messages, without an error.
func mustTake(t *testing.T, l *Link, p []byte, want ...[]byte) {
	t.Helper()
	got, e := l.Take(p)
	if e != api.OK || !alike(got, want) {
		t.Fatalf("Take: %v, %v, not %v", got, e, want)
	}
}

// alike holds two lists of bytes against one another.
func alike(a, b [][]byte) bool { return slices.EqualFunc(a, b, bytes.Equal) }

// mustBe holds a link to how many pieces wait, and fly.
func mustBe(t *testing.T, what any, l *Link, waiting, flying int) {
	t.Helper()
	if l.Waiting() != waiting || l.Flying() != flying || l.Idle() != (waiting+flying == 0) {
		t.Fatalf("%v: %d wait, %d fly, Idle %v, not %d, %d", what, l.Waiting(), l.Flying(), l.Idle(), waiting, flying)
	}
}

// span answers the numbers from the first on to the one ahead of end.
func span(first, end int) []order.Seq {
	var l []order.Seq
	for n := first; n < end; n++ {
		l = append(l, order.Seq(n))
	}
	return l
}

// told answers a frame that is Alone.
func told(epoch uint16, next order.Seq, bits uint32) []byte {
	return frame.Frame{Epoch: epoch, Ack: order.Acks{Next: next, Bits: bits}, Alone: true}.Bytes()
}

// short answers a frame that has a message of its own.
func short(epoch uint16, seq order.Seq, text string) []byte {
	return frame.Frame{Epoch: epoch, Seq: seq, First: true, Last: true, Data: []byte(text)}.Bytes()
}

// P13.1: New, Send

func TestANewLink(t *testing.T) {
	for _, epoch := range []uint16{0, 1, 255, 256, 0x1234, 32768, 65535} {
		l := New(epoch)
		mustBe(t, epoch, l, 0, 0)
		if l.Epoch() != epoch || l.Acks() != (order.Acks{}) || len(l.Tick(0)) != 0 {
			t.Errorf("%d: %d, %v", epoch, l.Epoch(), l.Acks())
		}
	}
}

func TestSendLetsPiecesWait(t *testing.T) {
	for _, x := range []struct{ size, pieces int }{{0, 1}, {1, 1}, {63, 1}, {64, 1}, {65, 2}, {100, 2}, {128, 2}, {129, 3}, {1023, 16}, {1024, 16}} {
		l := New(3)
		mustSend(t, l, many(x.size))
		mustBe(t, x.size, l, x.pieces, 0)
		mustSend(t, l, nil)
		mustBe(t, x.size, l, x.pieces+1, 0)
	}
}

func TestSendOfTooMuch(t *testing.T) {
	l := New(3)
	for _, size := range []int{1025, 1026, 2048, 65536, 1 << 20} {
		if e := l.Send(many(size)); e != api.ErrLong {
			t.Errorf("%d bytes: %v", size, e)
		}
		mustBe(t, size, l, 0, 0)
	}
}

// heldBack answers a link of which so many pieces wait, each a message of its own.
func heldBack(t *testing.T, pieces int) *Link {
	t.Helper()
	l := New(3)
	for i := range pieces {
		mustSend(t, l, []byte{byte(i)})
	}
	mustBe(t, "heldBack", l, pieces, 0)
	return l
}

func TestTheQueue(t *testing.T) {
	if Queue != 128 {
		t.Fatal(Queue)
	}
	for _, x := range []struct {
		waits, size int
		err         api.Errno
	}{{127, 64, api.OK}, {127, 65, api.ErrFull}, {128, 0, api.ErrFull}, {128, 1, api.ErrFull}, {128, 1024, api.ErrFull}, {112, 1024, api.OK}, {113, 1024, api.ErrFull}, {113, 960, api.OK}, {113, 961, api.ErrFull}, {126, 128, api.OK}, {126, 129, api.ErrFull}, {128, 1025, api.ErrLong}, {0, 1025, api.ErrLong}} {
		l := heldBack(t, x.waits)
		more := 0
		if x.err == api.OK {
			more = clip.Count(x.size)
		}
		if e := l.Send(many(x.size)); e != x.err {
			t.Errorf("%d wait, %d bytes: %v, not %v", x.waits, x.size, e, x.err)
		}
		mustBe(t, x, l, x.waits+more, 0)
	}
}

func TestNothingOfAMessageWaitsThatHasNoRoom(t *testing.T) {
	a, b := heldBack(t, 120), New(3)
	if e := a.Send(many(1024)); e != api.ErrFull {
		t.Fatal(e)
	}
	mustSend(t, a, many(512))
	if e := a.Send(nil); e != api.ErrFull {
		t.Fatal(e)
	}
	var want [][]byte
	for i := range 120 {
		want = append(want, []byte{byte(i)})
	}
	want = append(want, many(512))
	if got := carry(t, a, b, 20); !alike(got, want) {
		t.Errorf("%d messages", len(got))
	}
}

// carry ticks both ends so often, and loses nothing. It answers what comes to b.
func carry(t *testing.T, a, b *Link, ticks int) [][]byte {
	t.Helper()
	var come [][]byte
	for now := range ticks {
		for _, p := range a.Tick(now) {
			l, e := b.Take(p)
			if e != api.OK {
				t.Fatal(e)
			}
			come = append(come, l...)
		}
		for _, p := range b.Tick(now) {
			mustTake(t, a, p)
		}
	}
	return come
}

func TestThoseThatFlyTakeNoRoom(t *testing.T) {
	l := heldBack(t, 128)
	mustTick(t, l, 0, span(0, 32)...)
	mustBe(t, "they fly", l, 96, 32)
	for i := range 32 {
		mustSend(t, l, []byte{byte(i)})
	}
	mustBe(t, "as many again", l, 128, 32)
	if e := l.Send(nil); e != api.ErrFull {
		t.Error(e)
	}
}

// P13.2: Tick

func TestAFrameTellsEpochNumberAcksAndPiece(t *testing.T) {
	l := New(0x0203)
	mustTake(t, l, short(0x0203, 0, "a"), []byte("a"))
	mustTake(t, l, short(0x0203, 2, "c"))
	mustSend(t, l, many(130))
	mustSend(t, l, nil)
	mustSend(t, l, many(64))
	ack := order.Acks{Next: 1, Bits: 1}
	p := many(130)
	want := []frame.Frame{
		{Epoch: 0x0203, Seq: 0, Ack: ack, First: true, Data: p[:64]},
		{Epoch: 0x0203, Seq: 1, Ack: ack, Data: p[64:128]},
		{Epoch: 0x0203, Seq: 2, Ack: ack, Last: true, Data: p[128:]},
		{Epoch: 0x0203, Seq: 3, Ack: ack, First: true, Last: true},
		{Epoch: 0x0203, Seq: 4, Ack: ack, First: true, Last: true, Data: many(64)},
	}
	for now := range 2 {
		var told [][]byte
		for i := range want {
			want[i].Ack = ack
			told = append(told, want[i].Bytes())
		}
		if got := l.Tick(now * 3); !alike(got, told) {
			t.Errorf("Tick(%d): % x, not % x", now*3, got, told)
		}
		if now == 0 { // those that are sent again tell what has come meanwhile
			mustTake(t, l, short(0x0203, 1, "b"), []byte("b"), []byte("c"))
			ack = order.Acks{Next: 3}
		}
	}
}

func TestTwoFramesOfAHundredBytes(t *testing.T) {
	l := New(3)
	mustSend(t, l, many(100))
	mustTick(t, l, 0, 0, 1)
	mustTick(t, l, 1)
	mustBe(t, "sent", l, 0, 2)
}

func TestWhenItIsSentAgain(t *testing.T) {
	for _, x := range []struct {
		at, now int
		again   bool
	}{{0, 0, false}, {0, 1, false}, {0, 2, false}, {0, 3, true}, {0, 4, true}, {0, 1000, true}, {0, math.MaxInt, true}, {5, 8, true}, {5, 7, false}, {5, 2, false}, {5, 0, false}, {5, -100, false}, {-7, -4, true}, {-7, -5, false}, {-2, 1, true}, {-1, 1, false}, {-1, 2, true}, {100, 101, false}, {math.MinInt, math.MinInt + 2, false}, {math.MinInt, math.MinInt + 3, true}, {math.MaxInt - 3, math.MaxInt, true}, {math.MaxInt - 2, math.MaxInt, false}} {
		l := New(3)
		mustSend(t, l, []byte("x"))
		mustTick(t, l, x.at, 0)
		if got := len(l.Tick(x.now)); got == 1 != x.again || got > 1 {
			t.Errorf("sent at %d: %d frames at %d", x.at, got, x.now)
		}
	}
}

func TestTicksGoRound(t *testing.T) {
	l := New(3)
	mustSend(t, l, []byte("x"))
	mustTick(t, l, math.MaxInt-1, 0)
	mustTick(t, l, math.MaxInt)
	mustTick(t, l, math.MinInt)
	mustTick(t, l, math.MinInt+1, 0)
	mustTick(t, l, math.MinInt+3)
	mustTick(t, l, math.MinInt+4, 0)
}

func TestItIsSentAgainAndAgain(t *testing.T) {
	l := New(3)
	mustSend(t, l, many(65))
	for now := range 100 {
		if now%3 == 0 {
			mustTick(t, l, now, 0, 1)
		} else {
			mustTick(t, l, now)
		}
		mustTick(t, l, now)
	}
}

func TestEachPieceHasATimeOfItsOwn(t *testing.T) {
	l := New(3)
	mustSend(t, l, []byte("x"))
	mustTick(t, l, 0, 0)
	mustSend(t, l, many(100))
	mustTick(t, l, 1, 1, 2)
	mustSend(t, l, []byte("y"))
	mustTick(t, l, 2, 3)
	mustTick(t, l, 3, 0)
	mustTick(t, l, 4, 1, 2)
	mustTick(t, l, 9, 0, 1, 2, 3)
	mustSend(t, l, []byte("z"))
	mustTick(t, l, 12, 0, 1, 2, 3, 4)
}

func TestTheWindow(t *testing.T) {
	l := heldBack(t, 100)
	mustTick(t, l, 0, span(0, 32)...)
	mustBe(t, "at first", l, 68, 32)
	mustTick(t, l, 1)
	mustTake(t, l, told(3, 0, math.MaxUint32)) // all but the first
	mustBe(t, "the first one flies", l, 68, 1)
	mustTick(t, l, 2) // no more than Window - 1 behind the next one
	mustTick(t, l, 3, 0)
	mustTake(t, l, told(3, 32, 0))
	mustBe(t, "none flies", l, 68, 0)
	mustTick(t, l, 4, span(32, 64)...)
	mustTake(t, l, told(3, 35, 1<<1|1<<28)) // ahead of 35; 37; 64, which doesn't fly yet
	mustBe(t, "three and one have come", l, 36, 28)
	mustTick(t, l, 5, 64, 65, 66)
	mustTake(t, l, told(3, 67, 0))
	mustTick(t, l, 6, span(67, 99)...)
	mustTake(t, l, told(3, 98, 0))
	mustTick(t, l, 7, 99)
	mustBe(t, "the last two", l, 0, 2)
}

func TestTheFirstThatFliesHoldsTheOthersBack(t *testing.T) {
	for lost := range 32 {
		l := heldBack(t, 100)
		mustTick(t, l, 0, span(0, 32)...)
		bits := uint32(math.MaxUint32) // of those behind the lost one that fly
		if lost > 0 {
			bits = 1<<(31-lost) - 1
		}
		mustTake(t, l, told(3, order.Seq(lost), bits))
		mustBe(t, lost, l, 68, 1)
		mustTick(t, l, 1, span(32, 32+lost)...)
		mustTick(t, l, 3, order.Seq(lost))
	}
}

func TestNumbersGoRound(t *testing.T) {
	a, b := New(9), New(9)
	sent, come := 0, 0
	for now := 0; come < 140000; now++ {
		for a.Send([]byte{byte(sent), byte(sent >> 8), byte(sent >> 16)}) == api.OK {
			sent++
		}
		for _, p := range a.Tick(now) {
			l, e := b.Take(p)
			for _, x := range l {
				if e != api.OK || len(x) != 3 || x[0] != byte(come) || x[1] != byte(come>>8) || x[2] != byte(come>>16) {
					t.Fatalf("%d: %v, %v", come, x, e)
				}
				come++
			}
		}
		if b.Acks() != (order.Acks{Next: order.Seq(come)}) {
			t.Fatalf("%d: %v", come, b.Acks())
		}
		for _, p := range b.Tick(now) {
			mustTake(t, a, p)
		}
	}
}

// mustAnswer holds a Tick to one frame that is Alone.
func mustAnswer(t *testing.T, l *Link, now int, epoch uint16, ack order.Acks) {
	t.Helper()
	want := [][]byte{told(epoch, ack.Next, ack.Bits)}
	if got := l.Tick(now); !alike(got, want) {
		t.Fatalf("Tick(%d): % x, not % x", now, got, want)
	}
}

func TestAnAnswerIsOwed(t *testing.T) {
	l := New(0x0102)
	mustTick(t, l, 0)
	mustTake(t, l, short(0x0102, 0, "a"), []byte("a"))
	mustAnswer(t, l, 1, 0x0102, order.Acks{Next: 1})
	mustTick(t, l, 1)
	mustTick(t, l, 2)
	mustTake(t, l, short(0x0102, 3, "d"))
	mustTake(t, l, short(0x0102, 2, "c"))
	mustAnswer(t, l, 2, 0x0102, order.Acks{Next: 1, Bits: 3}) // one for both
	mustTick(t, l, 2)
	mustTake(t, l, short(0x0102, 0, "a")) // it came already, but is answered again
	mustAnswer(t, l, 3, 0x0102, order.Acks{Next: 1, Bits: 3})
	mustTake(t, l, short(0x0102, 34, "x")) // too far on, but answered
	mustAnswer(t, l, 3, 0x0102, order.Acks{Next: 1, Bits: 3})
	mustTake(t, l, told(0x0102, 0, 0))
	mustTick(t, l, 4)
}

func TestAnAnswerGoesWithWhatIsSent(t *testing.T) {
	l := New(3)
	mustTake(t, l, short(3, 0, "a"), []byte("a"))
	mustSend(t, l, []byte("x"))
	out := mustParse(t, l.Tick(0))
	if len(out) != 1 || out[0].Alone || out[0].Ack.Next != 1 {
		t.Fatal(out)
	}
	mustTick(t, l, 1) // nothing is owed any more
	mustTake(t, l, short(3, 0, "a"))
	mustAnswer(t, l, 2, 3, order.Acks{Next: 1}) // something flies, but isn't sent now
	mustTake(t, l, short(3, 0, "a"))
	mustTick(t, l, 3, 0)
	mustTick(t, l, 4)
}

func TestWhatIsRefusedOwesNothing(t *testing.T) {
	l := New(3)
	for _, p := range [][]byte{nil, {}, short(4, 0, "a"), short(3, 0, "a")[1:], told(3, 0, 0), told(4, 0, 0)} {
		l.Take(p)
		mustTick(t, l, 0)
	}
}

// P13.3: Take

func TestTakeRefuses(t *testing.T) {
	good := short(3, 0, "abc")
	spoilt := slices.Clone(good)
	spoilt[14] ^= 4
	old := slices.Clone(short(4, 0, "abc"))
	old[14] ^= 4
	none := wax.Make().Seal(good[:len(good)-5]) // no frame's bytes, with their sum
	for i, x := range []struct {
		p   []byte
		err api.Errno
	}{{nil, api.ErrForm}, {[]byte{}, api.ErrForm}, {[]byte{1, 2, 3}, api.ErrForm}, {[]byte{0, 0, 0, 0}, api.ErrForm}, {[]byte("abcdefgh"), api.ErrSum}, {spoilt, api.ErrSum}, {old, api.ErrSum}, {good[:len(good)-1], api.ErrSum}, {append(slices.Clone(good), 0), api.ErrSum}, {none, api.ErrForm}, {short(2, 0, "abc"), api.ErrOld}, {short(4, 0, "abc"), api.ErrOld}, {short(0, 0, "abc"), api.ErrOld}, {short(3+256, 0, "abc"), api.ErrOld}, {short(65535, 0, "abc"), api.ErrOld}, {told(4, 2, 0), api.ErrOld}} {
		l := New(3)
		mustSend(t, l, many(100))
		mustTick(t, l, 0, 0, 1)
		if got, e := l.Take(x.p); got != nil || e != x.err {
			t.Errorf("%d: %v, %v, not %v", i, got, e, x.err)
		}
		mustBe(t, i, l, 0, 2)
		if l.Acks() != (order.Acks{}) || len(l.Tick(1)) != 0 {
			t.Errorf("%d: something else happened", i)
		}
		mustTake(t, l, good, []byte("abc"))
	}
}

func TestAnotherEpochTellsNothing(t *testing.T) {
	l := New(3)
	mustSend(t, l, many(100))
	mustTick(t, l, 0, 0, 1)
	f := frame.Frame{Epoch: 2, Seq: 0, Ack: order.Acks{Next: 2}, First: true, Last: true, Data: []byte("x")}
	if got, e := l.Take(f.Bytes()); got != nil || e != api.ErrOld {
		t.Fatal(got, e)
	}
	mustBe(t, "another epoch", l, 0, 2)
	mustTick(t, l, 1)
	f.Epoch = 3
	mustTake(t, l, f.Bytes(), []byte("x"))
	mustBe(t, "its own", l, 0, 0)
}

func TestWhatHasComeDoesNotFly(t *testing.T) {
	for _, x := range []struct {
		next  order.Seq
		bits  uint32
		flies []order.Seq
	}{
		{0, 0, span(0, 6)}, {1, 0, span(1, 6)}, {3, 0, span(3, 6)}, {5, 0, span(5, 6)}, {6, 0, nil}, {7, 0, nil},
		{0, 1, []order.Seq{0, 2, 3, 4, 5}}, {0, 0b10101, []order.Seq{0, 2, 4}}, {2, 0b101, []order.Seq{2, 4}}, {2, math.MaxUint32, []order.Seq{2}},
		{100, 0, nil}, {32767, 0, nil}, {32768, 0, nil}, {32769, 0, span(0, 1)}, {32770, 0, span(0, 2)}, {32780, 0, span(0, 6)},
		{65535, 0, span(0, 6)}, {65535, 1, span(1, 6)}, {65533, 0b100, span(1, 6)}, {65533, 0b101100, []order.Seq{2, 4, 5}},
	} {
		ack := order.Acks{Next: x.next, Bits: x.bits}
		for _, p := range [][]byte{told(3, x.next, x.bits), frame.Frame{Epoch: 3, Seq: 60, Ack: ack}.Bytes()} {
			l := heldBack(t, 6)
			mustTick(t, l, 0, span(0, 6)...)
			for range 2 {
				mustTake(t, l, p)
				mustBe(t, x, l, 0, len(x.flies))
			}
			if len(x.flies) > 0 {
				mustTick(t, l, 3, x.flies...)
			}
		}
	}
}

func TestThoseThatWaitAreNotToldOf(t *testing.T) {
	l := heldBack(t, 40)
	mustTake(t, l, told(3, 40, 0))
	mustBe(t, "none flew", l, 40, 0)
	mustTick(t, l, 0, span(0, 32)...)
	mustTake(t, l, told(3, 40, 0))
	mustBe(t, "32 flew", l, 8, 0)
	mustTick(t, l, 1, span(32, 40)...)
}

func TestPiecesComeInOrder(t *testing.T) {
	l := New(3)
	mustTake(t, l, short(3, 2, "c"))
	mustTake(t, l, short(3, 1, "b"))
	mustTake(t, l, short(3, 5, "f"))
	if l.Acks() != (order.Acks{Bits: 0b10011}) {
		t.Error(l.Acks())
	}
	mustTake(t, l, short(3, 0, "a"), []byte("a"), []byte("b"), []byte("c"))
	mustTake(t, l, short(3, 4, "e"))
	mustTake(t, l, short(3, 2, "c"))
	mustTake(t, l, short(3, 4, "e"))
	mustTake(t, l, short(3, 0, "a"))
	mustTake(t, l, short(3, 3, ""), nil, []byte("e"), []byte("f"))
	if l.Acks() != (order.Acks{Next: 6}) {
		t.Error(l.Acks())
	}
	mustTake(t, l, short(3, 6, "g"), []byte("g"))
}

func TestWhatCameIsNotTakenAgain(t *testing.T) {
	l := New(3)
	mustTake(t, l, short(3, 1, "b"))
	mustTake(t, l, short(3, 1, "another"))
	mustTake(t, l, short(3, 0, "a"), []byte("a"), []byte("b"))
	for _, seq := range []order.Seq{0, 1, 65535, 40000, 32770} { // those a half round behind came, too
		mustTake(t, l, short(3, seq, "again"))
	}
	if l.Acks() != (order.Acks{Next: 2}) {
		t.Error(l.Acks())
	}
}

func TestHowFarAheadAPieceMayBe(t *testing.T) {
	l := New(3)
	for _, seq := range []order.Seq{33, 34, 64, 65, 1000, 32767} {
		mustTake(t, l, short(3, seq, "far"))
		if l.Acks() != (order.Acks{}) {
			t.Fatalf("%d: %v", seq, l.Acks())
		}
	}
	mustTake(t, l, short(3, 32, "last"))
	want := [][]byte{[]byte("0")}
	for seq := order.Seq(31); seq > 0; seq-- {
		mustTake(t, l, short(3, seq, string(rune('0'+seq))))
	}
	for seq := 1; seq < 32; seq++ {
		want = append(want, []byte(string(rune('0'+seq))))
	}
	mustTake(t, l, short(3, 0, "0"), append(want, []byte("last"))...)
	mustTake(t, l, short(3, 33, "next"), []byte("next"))
}

func TestAMessageOfPieces(t *testing.T) {
	for first := range 16 { // the piece that comes last
		a, b := New(3), New(3)
		mustSend(t, a, many(1000))
		mustSend(t, a, []byte("x"))
		out := a.Tick(0)
		for i, p := range out {
			if i != first {
				mustTake(t, b, p)
			}
		}
		mustTake(t, b, out[first], many(1000), []byte("x"))
	}
}

// part answers a frame with a piece.
func part(seq order.Seq, first, last bool, size int) []byte {
	return frame.Frame{Epoch: 3, Seq: seq, First: first, Last: last, Data: many(size)}.Bytes()
}

// mustErr holds a Take to messages and an error.
func mustErr(t *testing.T, l *Link, p []byte, err api.Errno, want ...[]byte) {
	t.Helper()
	got, e := l.Take(p)
	if e != err || !alike(got, want) {
		t.Fatalf("Take: %v, %v, not %v, %v", got, e, want, err)
	}
}

func TestPiecesThatTheBasketRefuses(t *testing.T) {
	l := New(3)
	mustErr(t, l, part(0, false, true, 5), api.ErrForm)
	mustErr(t, l, part(1, false, false, 64), api.OK) // left out
	mustErr(t, l, part(2, true, false, 63), api.ErrForm)
	mustErr(t, l, part(3, true, true, 5), api.OK, many(5))
	mustErr(t, l, part(4, true, false, 64), api.OK)
	mustErr(t, l, part(5, true, true, 5), api.ErrForm)
	mustErr(t, l, part(6, true, true, 5), api.OK, many(5))
	if l.Acks() != (order.Acks{Next: 7}) {
		t.Error(l.Acks())
	}
	mustAnswer(t, l, 0, 3, order.Acks{Next: 7})
	for seq := range order.Seq(16) {
		mustErr(t, l, part(7+seq, seq == 0, false, 64), api.OK)
	}
	mustErr(t, l, part(23, false, true, 1), api.ErrLong)
	mustErr(t, l, part(24, true, true, 1), api.OK, many(1))
}

func TestTheLastErrorAndAllMessages(t *testing.T) {
	long := func(seq order.Seq) [][]byte { // a message of 1025 bytes
		var l [][]byte
		for i := range order.Seq(17) {
			size := 64
			if i == 16 {
				size = 1
			}
			l = append(l, part(seq+i, i == 0, i == 16, size))
		}
		return l
	}
	form := func(seq order.Seq) [][]byte { return [][]byte{part(seq, true, false, 1)} }
	good := func(seq order.Seq) [][]byte { return [][]byte{part(seq, true, true, int(seq))} }
	for i, x := range []struct {
		kinds []func(order.Seq) [][]byte
		err   api.Errno
	}{
		{[]func(order.Seq) [][]byte{form, good}, api.ErrForm},
		{[]func(order.Seq) [][]byte{good, form}, api.ErrForm},
		{[]func(order.Seq) [][]byte{good, form, good}, api.ErrForm},
		{[]func(order.Seq) [][]byte{long, good}, api.ErrLong},
		{[]func(order.Seq) [][]byte{good, long, good, good}, api.ErrLong},
		{[]func(order.Seq) [][]byte{long, good, form, good}, api.ErrForm},
		{[]func(order.Seq) [][]byte{form, long, good}, api.ErrLong},
		{[]func(order.Seq) [][]byte{form, good, long}, api.ErrLong},
		{[]func(order.Seq) [][]byte{good, good}, api.OK},
	} {
		l := New(3)
		var all, want [][]byte
		all = append(all, good(0)...)
		want = append(want, nil)
		for _, kind := range x.kinds {
			more := kind(order.Seq(len(all)))
			if f, _ := frame.Parse(more[0]); f.First && f.Last {
				want = append(want, f.Data)
			}
			all = append(all, more...)
		}
		for j := len(all) - 1; j > 0; j-- { // all of them ahead of the first one
			mustErr(t, l, all[j], api.OK)
		}
		got, e := l.Take(all[0])
		if e != x.err || !alike(got, want) {
			t.Errorf("%d: %d messages, %v, not %d, %v", i, len(got), e, len(want), x.err)
		}
	}
}

// P13.4: what is sent comes

// wire loses frames, doubles them, holds them back and spoils them, till it is mended.
type wire struct {
	dice   *rand.Rand
	faults int // of 100
	holds  [][][]byte
}

func (w *wire) put(frames [][]byte) {
	for _, p := range frames {
		times, late := 1, 0
		if w.dice.Intn(100) < w.faults {
			switch w.dice.Intn(4) {
			case 0:
				times = 0
			case 1:
				times = 2
			case 2:
				late = 1 + w.dice.Intn(30)
			case 3:
				p = slices.Clone(p)
				p[w.dice.Intn(len(p))] ^= byte(1 + w.dice.Intn(255))
			}
		}
		for len(w.holds) <= late {
			w.holds = append(w.holds, nil)
		}
		for range times {
			w.holds[late] = append(w.holds[late], p)
		}
	}
}

func (w *wire) take() [][]byte {
	if len(w.holds) == 0 {
		return nil
	}
	l := w.holds[0]
	w.holds = w.holds[1:]
	return l
}

// end is one of two ends, and what becomes of what it sends, and takes.
type end struct {
	*Link
	sent, come [][]byte
	out        wire
}

func (e *end) talk(dice *rand.Rand) {
	for range dice.Intn(3) {
		p := make([]byte, []int{0, 1, 63, 64, 65, 200, 1024, dice.Intn(300)}[dice.Intn(8)])
		dice.Read(p)
		if e.Send(p) == api.OK {
			e.sent = append(e.sent, p)
		}
	}
}

func (e *end) take(t *testing.T, l [][]byte, from *end) {
	t.Helper()
	for _, p := range l {
		messages, err := e.Take(p)
		if err != api.OK && err != api.ErrSum && err != api.ErrForm {
			t.Fatal(err)
		}
		e.come = append(e.come, messages...)
	}
	if len(e.come) > len(from.sent) || !alike(e.come, from.sent[:len(e.come)]) {
		t.Fatal("what has come is no beginning of what was sent")
	}
}

func TestWhatIsSentComes(t *testing.T) {
	for _, faults := range []int{0, 5, 30, 60, 90, 100} {
		for seed := range int64(12) {
			dice := rand.New(rand.NewSource(seed))
			a := &end{Link: New(5), out: wire{dice: dice, faults: faults}}
			b := &end{Link: New(5), out: wire{dice: dice, faults: faults}}
			now := dice.Intn(1000) - 500
			for n := range 400 {
				if n < 200 {
					a.talk(dice)
					b.talk(dice)
				} else {
					a.out.faults, b.out.faults = 0, 0
				}
				a.out.put(a.Tick(now))
				b.out.put(b.Tick(now))
				a.take(t, b.out.take(), b)
				b.take(t, a.out.take(), a)
				now++
			}
			if len(a.come) != len(b.sent) || len(b.come) != len(a.sent) || !a.Idle() || !b.Idle() {
				t.Fatalf("%d of 100, %d: %d of %d, %d of %d", faults, seed, len(a.come), len(b.sent), len(b.come), len(a.sent))
			}
		}
	}
}

// TestWhatItSendsSaysNothing: of two that send other bytes, as many, and take the same, frames are as many, as long, at the same time.
func TestWhatItSendsSaysNothing(t *testing.T) {
	for seed := range int64(40) {
		dice := rand.New(rand.NewSource(seed))
		a, b := New(5), New(5)
		for now := range 200 {
			for range dice.Intn(3) {
				size := dice.Intn(1026)
				if a.Send(make([]byte, size)) != b.Send(many(size)) {
					t.Fatal("Send")
				}
			}
			x, y := a.Tick(now), b.Tick(now)
			if len(x) != len(y) {
				t.Fatalf("%d, %d frames", len(x), len(y))
			}
			for i := range x {
				if len(x[i]) != len(y[i]) || !bytes.Equal(x[i][:13], y[i][:13]) {
					t.Fatalf("% x, % x", x[i], y[i])
				}
			}
			for range dice.Intn(3) {
				next := order.Seq(dice.Intn(now + 1))
				p := frame.Frame{Epoch: 5, Seq: order.Seq(dice.Intn(50)), Ack: order.Acks{Next: next, Bits: dice.Uint32()}}.Bytes()
				a.Take(p)
				b.Take(p)
			}
		}
	}
}

// said is what the document says of a link, read word by word, with numbers that don't go round.
type said struct {
	epoch  uint16
	waits  []clip.Piece
	flies  []*sailing
	next   int
	come   map[int]clip.Piece
	low    int // the first number that hasn't come
	basket clip.Basket
	owes   bool
}

type sailing struct {
	piece  clip.Piece
	number int
	sent   []int // when
}

func (s *said) send(p []byte) api.Errno {
	pieces, err := clip.Split(p)
	if err != api.OK {
		return err
	}
	if len(s.waits)+len(pieces) > 128 {
		return api.ErrFull
	}
	s.waits = append(s.waits, pieces...)
	return api.OK
}

func (s *said) acks() order.Acks {
	a := order.Acks{Next: order.Seq(s.low)}
	for k := range 32 {
		if _, ok := s.come[s.low+1+k]; ok {
			a.Bits |= 1 << k
		}
	}
	return a
}

func (s *said) tick(now int) [][]byte {
	for len(s.waits) > 0 && len(s.flies) < 32 {
		if len(s.flies) > 0 && s.next-s.flies[0].number > 31 {
			break
		}
		s.flies = append(s.flies, &sailing{piece: s.waits[0], number: s.next})
		s.next++
		s.waits = s.waits[1:]
	}
	var out [][]byte
	for _, x := range s.flies {
		if n := len(x.sent); n == 0 || x.sent[n-1] <= now-3 {
			x.sent = append(x.sent, now)
			f := frame.Frame{Epoch: s.epoch, Seq: order.Seq(x.number), Ack: s.acks(), First: x.piece.First, Last: x.piece.Last, Data: x.piece.Data}
			out = append(out, f.Bytes())
		}
	}
	if len(out) == 0 && s.owes {
		out = append(out, frame.Frame{Epoch: s.epoch, Ack: s.acks(), Alone: true}.Bytes())
	}
	s.owes = false
	return out
}

func (s *said) take(p []byte) ([][]byte, api.Errno) {
	f, err := frame.Parse(p)
	if err != api.OK {
		return nil, err
	}
	if f.Epoch != s.epoch {
		return nil, api.ErrOld
	}
	var still []*sailing
	for _, x := range s.flies {
		if !f.Ack.Has(order.Seq(x.number)) {
			still = append(still, x)
		}
	}
	s.flies = still
	if f.Alone {
		return nil, api.OK
	}
	s.owes = true
	number := s.low + int(int16(f.Seq-order.Seq(s.low)))
	if _, ok := s.come[number]; ok || number < s.low || number > s.low+32 {
		return nil, api.OK
	}
	s.come[number] = clip.Piece{First: f.First, Last: f.Last, Data: f.Data}
	var messages [][]byte
	for {
		x, ok := s.come[s.low]
		if !ok {
			return messages, err
		}
		s.low++
		p, whole, e := s.basket.Put(x)
		if whole {
			messages = append(messages, p)
		}
		if e != api.OK {
			err = e
		}
	}
}

// some answers a frame of any sort: often one that the link could be sent, with numbers that are near.
func some(dice *rand.Rand, s *said) []byte {
	f := frame.Frame{Epoch: s.epoch, First: dice.Intn(3) > 0, Last: dice.Intn(3) > 0, Data: many([]int{0, 1, 63, 64, 64, 64}[dice.Intn(6)])}
	f.Seq = order.Seq(s.low + dice.Intn(45) - 8)
	f.Ack = order.Acks{Next: order.Seq(s.next - dice.Intn(40) + 2), Bits: dice.Uint32() & dice.Uint32()}
	switch dice.Intn(12) {
	case 0:
		f = frame.Frame{Epoch: f.Epoch, Ack: f.Ack, Alone: true}
	case 1:
		f.Epoch++
	case 2:
		f.Seq = order.Seq(dice.Intn(1 << 16))
	case 3:
		f.Ack.Next = order.Seq(dice.Intn(1 << 16))
	case 4, 5, 6, 7:
		f.Seq = order.Seq(s.low)
	}
	p := f.Bytes()
	if dice.Intn(20) == 0 {
		p[dice.Intn(len(p))] ^= 1
	}
	return p
}

func TestItIsAsTheDocumentSays(t *testing.T) {
	errs := map[api.Errno]int{}
	messages := 0
	for seed := range int64(80) {
		dice := rand.New(rand.NewSource(seed))
		l, s := New(uint16(seed)), &said{epoch: uint16(seed), come: map[int]clip.Piece{}}
		now := 0
		for range 1500 {
			switch dice.Intn(4) {
			case 0:
				p := many([]int{0, 1, 64, 65, 1024, 1025, dice.Intn(1025)}[dice.Intn(7)])
				if got, want := l.Send(p), s.send(p); got != want {
					t.Fatalf("Send of %d: %v, not %v", len(p), got, want)
				}
			case 1:
				now += dice.Intn(4) - dice.Intn(2)
				if got, want := l.Tick(now), s.tick(now); !alike(got, want) {
					t.Fatalf("Tick(%d): % x, not % x", now, got, want)
				}
			default:
				p := some(dice, s)
				got, e := l.Take(p)
				want, err := s.take(p)
				if e != err || !alike(got, want) {
					t.Fatalf("Take: %v, %v, not %v, %v", got, e, want, err)
				}
				errs[e]++
				messages += len(got)
			}
			mustBe(t, seed, l, len(s.waits), len(s.flies))
			if l.Acks() != s.acks() || l.Epoch() != s.epoch {
				t.Fatalf("%v, not %v", l.Acks(), s.acks())
			}
			if len(l.early) != l.Acks().Ahead() {
				t.Fatalf("%d pieces are kept, %d came ahead of their turn", len(l.early), l.Acks().Ahead())
			}
		}
	}
	if messages < 1000 || errs[api.ErrForm] < 1000 || errs[api.ErrSum] < 1000 || errs[api.ErrOld] < 1000 {
		t.Errorf("%d messages, %v", messages, errs)
	}
}

// Sizes, and a nil link

func TestSizes(t *testing.T) {
	full := len(frame.Frame{Data: many(64)}.Bytes())
	for _, pieces := range []int{0, 1, 2, 3, 16, 32, 128, 1000, 1 << 20} {
		if got := Sizes(pieces); got != pieces*full || got != pieces*81 {
			t.Errorf("%d: %d, not %d", pieces, got, pieces*full)
		}
	}
	for _, pieces := range []int{-1, -2, -128, math.MinInt32, math.MinInt, math.MinInt + 1} {
		if got := Sizes(pieces); got != 0 {
			t.Errorf("%d: %d, not 0", pieces, got)
		}
	}
	l := New(3)
	mustSend(t, l, many(1024))
	if got := len(bytes.Join(l.Tick(0), nil)); got != Sizes(16) {
		t.Errorf("%d, not %d", got, Sizes(16))
	}
	Sizes(math.MaxInt) // it ends
}

func TestANilLink(t *testing.T) {
	var l *Link
	for _, p := range [][]byte{nil, {}, many(3), many(1024), many(1025)} {
		if e := l.Send(p); e != api.ErrNone {
			t.Errorf("Send of %d: %v", len(p), e)
		}
	}
	for _, p := range [][]byte{nil, {}, many(30), short(0, 0, "a"), short(1, 0, "a"), told(0, 0, 0)} {
		if got, e := l.Take(p); got != nil || e != api.ErrNone {
			t.Errorf("Take: %v, %v", got, e)
		}
	}
	for _, now := range []int{0, 1, -1, math.MaxInt, math.MinInt} {
		if got := l.Tick(now); got != nil {
			t.Errorf("Tick: %v", got)
		}
	}
	if l.Epoch() != 0 || l.Idle() || l.Waiting() != 0 || l.Flying() != 0 || l.Acks() != (order.Acks{}) {
		t.Error("it has something")
	}
}

// The rules of memory, and objects.

// overwrite writes over all of p, its spare room too.
func overwrite(p []byte) {
	for i := range p[:cap(p)] {
		p[:cap(p)][i] ^= 0xee
	}
}

func TestSendKeepsNothingOfWhatIsHandedIn(t *testing.T) {
	a, b := New(3), New(3)
	room := append(many(100), 1, 2, 3)
	mustSend(t, a, room[:100])
	if !bytes.Equal(room, append(many(100), 1, 2, 3)) {
		t.Error("what was handed in is changed")
	}
	overwrite(room)
	mustSend(t, a, room[:0])
	if got := carry(t, a, b, 5); !alike(got, [][]byte{many(100), nil}) {
		t.Error("what was handed in is kept")
	}
}

func TestFramesShareNoMemory(t *testing.T) {
	l := New(3)
	mustTake(t, l, short(3, 0, "a"), []byte("a"))
	alone := l.Tick(0)
	mustSend(t, l, many(200))
	one, two, three := l.Tick(0), l.Tick(3), l.Tick(6)
	if !alike(one, two) || !alike(one, three) {
		t.Fatal("others are sent again")
	}
	var was [][]byte
	for _, p := range one {
		was = append(was, slices.Clone(p))
	}
	for i, p := range two {
		overwrite(p)
		for j, q := range two[i+1:] {
			if !bytes.Equal(q, was[i+1+j]) {
				t.Error("two frames of one answer share their memory")
			}
		}
	}
	for i := range two {
		two[i] = nil
	}
	if !alike(one, was) || !alike(three, was) {
		t.Error("two answers share their memory")
	}
	for _, p := range slices.Concat(alone, one, three) {
		overwrite(p)
	}
	if got := l.Tick(9); !alike(got, was) {
		t.Error("an answer is kept")
	}
	mustTake(t, l, short(3, 0, "a"))
	mustAnswer(t, l, 9, 3, order.Acks{Next: 1})
}

func TestTakeKeepsNothingOfWhatIsHandedIn(t *testing.T) {
	a, l := New(3), New(3)
	mustSend(t, a, many(150))
	mustSend(t, a, []byte("x"))
	var got [][]byte
	out := a.Tick(0)
	for _, i := range []int{3, 1, 2, 0} {
		room := append(slices.Clone(out[i]), 1, 2, 3)
		p := room[:len(out[i])]
		messages, e := l.Take(p)
		if e != api.OK || !bytes.Equal(room, append(slices.Clone(out[i]), 1, 2, 3)) {
			t.Error("what was handed in is changed")
		}
		overwrite(room)
		got = append(got, messages...)
	}
	if !alike(got, [][]byte{many(150), []byte("x")}) {
		t.Error("what was handed in is kept")
	}
}

func TestMessagesShareNoMemory(t *testing.T) {
	a, l := New(3), New(3)
	for range 3 {
		mustSend(t, a, many(150))
		mustSend(t, a, many(9))
	}
	out := a.Tick(0)
	var got, answer [][]byte
	was := slices.Clone(out)
	for i := range out {
		was[i] = slices.Clone(out[i])
		answer, _ = l.Take(out[len(out)-1-i])
		got = append(got, answer...)
	}
	if len(answer) != 6 {
		t.Fatal(len(answer))
	}
	for i, p := range got {
		overwrite(p)
		for j, q := range got[i+1:] {
			if want := many([]int{150, 9}[(i+1+j)%2]); !bytes.Equal(q, want) {
				t.Error("two messages of one answer share their memory")
			}
		}
	}
	if !alike(out, was) {
		t.Error("a message shares its memory with a frame")
	}
	mustSend(t, a, many(70))
	for _, p := range l.Tick(0) {
		mustTake(t, a, p)
	}
	for _, p := range a.Tick(1) {
		messages, _ := l.Take(p)
		for _, x := range got {
			overwrite(x)
		}
		if len(messages) > 0 && !alike(messages, [][]byte{many(70)}) {
			t.Error("a message is kept")
		}
	}
}

func TestLinksHangOnThemselvesAlone(t *testing.T) {
	a, b := New(3), New(3)
	mustTake(t, a, short(3, 1, "b"))
	mustSend(t, a, []byte("x"))
	mustTick(t, b, 0)
	mustBe(t, "b", b, 0, 0)
	mustTake(t, b, short(3, 0, "0"), []byte("0"))
	mustTick(t, a, 0, 0)
	if a.Acks() != (order.Acks{Bits: 1}) || b.Acks() != (order.Acks{Next: 1}) {
		t.Error(a.Acks(), b.Acks())
	}
	mustTake(t, a, short(3, 0, "a"), []byte("a"), []byte("b"))
	mustTake(t, b, short(3, 1, "1"), []byte("1"))
}
