package wire

import (
	"bytes"
	"math"
	"math/rand"
	"slices"
	"testing"
)

// how answers a fault of that number alone.
func how(l ...byte) []Fault {
	out := make([]Fault, len(l))
	for i, x := range l {
		out[i].How = x
	}
	return out
}

// frames answers a frame of each text.
func frames(l ...string) [][]byte {
	out := make([][]byte, len(l))
	for i, s := range l {
		out[i] = []byte(s)
	}
	return out
}

// same tells whether two lists of frames are the same: no list and an empty one
// are.
func same(a, b [][]byte) bool { return slices.EqualFunc(a, b, bytes.Equal) }

// mustTake holds a Take to the frames that should come.
func mustTake(t *testing.T, what any, w *Wire, want ...string) {
	t.Helper()
	if got := w.Take(); !same(got, frames(want...)) {
		t.Errorf("%v: %q, not %q", what, got, want)
	}
}

// mustWait holds a wire to how many frames wait.
func mustWait(t *testing.T, what any, w *Wire, want int) {
	t.Helper()
	if got := w.Waiting(); got != want {
		t.Errorf("%v: %d wait, not %d", what, got, want)
	}
}

// P18.1: what becomes of a frame

func TestTheNumbers(t *testing.T) {
	if Comes != 0 || Lost != 1 || Twice != 2 || Late != 3 || Spoilt != 4 || Later != 5 {
		t.Error(Comes, Lost, Twice, Late, Spoilt, Later)
	}
}

func TestTheExample(t *testing.T) {
	var w Wire
	w.Put(frames("first", "second"), how(Late))
	mustTake(t, "Take", &w, "second")
	mustTake(t, "Take", &w, "first")
	mustTake(t, "Take", &w)
}

func TestAZeroWireHasNothing(t *testing.T) {
	var w Wire
	mustWait(t, "the zero value", &w, 0)
	for i := range 4 {
		mustTake(t, i, &w)
		mustWait(t, i, &w, 0)
	}
	w.Put(frames("a"), nil)
	mustWait(t, "behind empty Takes", &w, 1)
	mustTake(t, "behind empty Takes", &w, "a")
}

func TestOneFrameOfEachFault(t *testing.T) {
	turn := Fault{How: Spoilt, At: 1, Mask: 1}
	for _, x := range []struct {
		f    Fault
		want [][]string // of each Take
	}{
		{Fault{}, [][]string{{"p"}, {}, {}, {}}},
		{Fault{How: Comes, At: 1, Mask: 1}, [][]string{{"p"}, {}, {}, {}}},
		{Fault{How: Lost}, [][]string{{}, {}, {}, {}}},
		{Fault{How: Twice, At: 1, Mask: 1}, [][]string{{"p", "p"}, {}, {}, {}}},
		{Fault{How: Late, At: 1, Mask: 1}, [][]string{{}, {"p"}, {}, {}}},
		{turn, [][]string{{"r"}, {}, {}, {}}},
		{Fault{How: Spoilt}, [][]string{{"p"}, {}, {}, {}}},
		{Fault{How: Later, At: 1, Mask: 1}, [][]string{{}, {}, {"p"}, {}}},
	} {
		var w Wire
		w.Put(frames("p"), []Fault{x.f})
		wait := 0
		for _, l := range x.want {
			wait += len(l)
		}
		for i, l := range x.want {
			mustWait(t, []any{x.f, i}, &w, wait)
			mustTake(t, []any{x.f, i}, &w, l...)
			wait -= len(l)
		}
		mustWait(t, x.f, &w, 0)
	}
}

func TestOtherNumbersCome(t *testing.T) {
	for n := Later + 1; n <= math.MaxUint8; n++ {
		var w Wire
		w.Put(frames("p"), []Fault{{How: byte(n), At: 1, Mask: 1}})
		mustWait(t, n, &w, 1)
		mustTake(t, n, &w, "p")
		mustWait(t, n, &w, 0)
		mustTake(t, n, &w)
	}
}

func TestFaultsAreOfTheirPlaces(t *testing.T) {
	var w Wire
	w.Put(frames("a", "b", "c", "d", "e", "f", "g"), how(Later, Twice, Lost, Late, Comes))
	mustWait(t, "Put", &w, 7)
	mustTake(t, 0, &w, "b", "b", "e", "f", "g")
	mustWait(t, 0, &w, 2)
	mustTake(t, 1, &w, "d")
	mustWait(t, 1, &w, 1)
	mustTake(t, 2, &w, "a")
	mustWait(t, 2, &w, 0)
	mustTake(t, 3, &w)
}

func TestFewerAndMoreFaults(t *testing.T) {
	for faults := range 5 {
		var w Wire
		w.Put(frames("a", "b", "c"), slices.Repeat(how(Late), faults))
		late := min(3, faults)
		all := []string{"a", "b", "c"}
		mustWait(t, faults, &w, 3)
		mustTake(t, faults, &w, all[late:]...)
		mustTake(t, faults, &w, all[:late]...)
		mustTake(t, faults, &w)
	}
}

func TestFaultsOfAnEarlierPut(t *testing.T) {
	var w Wire
	w.Put(frames("a"), how(Comes, Lost, Lost, Lost))
	w.Put(frames("b", "c"), nil)
	w.Put(nil, how(Lost, Twice))
	w.Put([][]byte{}, how(Lost, Twice))
	mustTake(t, "others' faults", &w, "a", "b", "c")
}

func TestTheOrderIsThatOfPut(t *testing.T) {
	var w Wire
	w.Put(frames("a", "b", "c"), how(Later, Late, Comes))
	mustTake(t, 0, &w, "c")
	w.Put(frames("d", "e", "f"), how(Comes, Late, Comes))
	mustTake(t, 1, &w, "b", "d", "f")
	w.Put(frames("g", "h"), how(Comes, Later))
	w.Put(frames("i"), how(Twice))
	mustTake(t, 2, &w, "a", "e", "g", "i", "i")
	w.Put(frames("j"), nil)
	mustTake(t, 3, &w, "j")
	w.Put(frames("k"), nil)
	mustTake(t, 4, &w, "h", "k")
	mustTake(t, 5, &w)
	mustWait(t, "all have come", &w, 0)
}

func TestPutsBesideEachOther(t *testing.T) {
	var w Wire
	w.Put(frames("a"), how(Late))
	w.Put(frames("b"), how(Comes))
	w.Put(frames("c"), how(Late))
	w.Put(frames("d"), how(Twice))
	mustWait(t, "four Puts", &w, 5)
	mustTake(t, 0, &w, "b", "d", "d")
	mustTake(t, 1, &w, "a", "c")
}

func TestFramesWithoutBytes(t *testing.T) {
	var w Wire
	w.Put([][]byte{nil, {}, nil, {}, nil}, how(Comes, Twice, Lost, Spoilt, Late))
	mustWait(t, "no bytes", &w, 5)
	mustTake(t, "no bytes", &w, "", "", "", "")
	mustTake(t, "no bytes", &w, "")
	mustTake(t, "no bytes", &w)
}

func TestSpoiltOnesAreSpoils(t *testing.T) {
	rolls := rand.New(rand.NewSource(1))
	var w Wire
	for n := range 200 {
		var sent, want [][]byte
		var faults []Fault
		for range rolls.Intn(4) {
			p := make([]byte, rolls.Intn(20))
			rolls.Read(p)
			f := Fault{Spoilt, uint16(rolls.Uint32()), rolls.Uint32()}
			sent, faults = append(sent, p), append(faults, f)
			want = append(want, Spoil(p, f))
		}
		w.Put(sent, faults)
		if got := w.Take(); !same(got, want) {
			t.Fatalf("%d: %x, not %x", n, got, want)
		}
	}
}

func TestManyFrames(t *testing.T) {
	var w Wire
	var want [4][][]byte
	for i := range 5000 {
		p := []byte{byte(i), byte(i >> 8)}
		f := []byte{Comes, Late, Later}[i%3]
		w.Put([][]byte{p}, how(f))
		want[i%3] = append(want[i%3], p)
	}
	left := 5000
	for i, l := range want {
		mustWait(t, i, &w, left)
		if got := w.Take(); !same(got, l) {
			t.Errorf("%d: %d frames, not %d", i, len(got), len(l))
		}
		left -= len(l)
	}
}

// said is a wire as the document has it: frames by the Take that they wait for.
type said struct {
	now   int
	takes map[int][][]byte
}

func (s *said) put(l [][]byte, faults []Fault) {
	for i, p := range l {
		f := Fault{How: Comes}
		if i < len(faults) {
			f = faults[i]
		}
		p = append([]byte{}, p...)
		how := int(f.How)
		switch how {
		case 1:
			continue
		case 2:
			s.takes[s.now] = append(s.takes[s.now], p)
		case 4:
			turned(p, f)
		}
		at := s.now + map[int]int{3: 1, 5: 2}[how]
		s.takes[at] = append(s.takes[at], p)
	}
}

// take tells what came: of the same order, as frames that were Put earlier
// stand ahead already.
func (s *said) take() [][]byte {
	out := s.takes[s.now]
	delete(s.takes, s.now)
	s.now++
	return out
}

func (s *said) waiting() int {
	n := 0
	for _, l := range s.takes {
		n += len(l)
	}
	return n
}

// turned turns bits of p, one by one.
func turned(p []byte, f Fault) {
	if len(p) == 0 {
		return
	}
	at := int(f.At) % (len(p) * 8)
	for bit := 0; bit < 32; bit++ {
		if f.Mask&(1<<bit) != 0 && at+bit < len(p)*8 {
			p[(at+bit)/8] ^= 1 << ((at + bit) % 8)
		}
	}
}

func TestItIsAsTheDocumentSays(t *testing.T) {
	rolls := rand.New(rand.NewSource(18))
	came := map[byte]int{}
	for range 300 {
		w, s := &Wire{}, &said{takes: map[int][][]byte{}}
		for range 60 {
			for range rolls.Intn(3) {
				var l [][]byte
				for range rolls.Intn(5) {
					p := make([]byte, rolls.Intn(12))
					rolls.Read(p)
					l = append(l, p)
				}
				var faults []Fault
				for range rolls.Intn(7) {
					f := Fault{byte(rolls.Intn(8)), uint16(rolls.Intn(1 << rolls.Intn(17))), rolls.Uint32() >> rolls.Intn(32)}
					came[f.How]++
					faults = append(faults, f)
				}
				w.Put(l, faults)
				s.put(l, faults)
				if w.Waiting() != s.waiting() {
					t.Fatalf("%d wait, not %d", w.Waiting(), s.waiting())
				}
			}
			for range rolls.Intn(3) {
				if got, want := w.Take(), s.take(); !same(got, want) {
					t.Fatalf("%x, not %x", got, want)
				}
				if w.Waiting() != s.waiting() {
					t.Fatalf("%d wait, not %d", w.Waiting(), s.waiting())
				}
			}
		}
	}
	for f := range byte(8) {
		if came[f] < 1000 {
			t.Errorf("too few of %d tell nothing: %d", f, came[f])
		}
	}
}

// P18.2: Spoil

func TestSpoilByHand(t *testing.T) {
	for _, x := range []struct {
		p, want string
		at      uint16
		mask    uint32
	}{
		{"\x00\x00\x00", "\x40\x01\x00", 30, 5}, // 30 is 6 of 24
		{"\x00", "\x01", 0, 1},
		{"\x00", "\x80", 7, 1},
		{"\x00", "\x01", 8, 1},
		{"\x00", "\x80", 15, 1},
		{"\x00", "\x80", 7, math.MaxUint32},
		{"\x00", "\xff", 0, math.MaxUint32},
		{"\xff", "\x00", 0, math.MaxUint32},
		{"\xff", "\xff", 0, 0},
		{"\x00", "\x00", 1, 0x80},
		{"\x00", "\x80", 1, 0x40},
		{"\x00\x00", "\x80\x01", 7, 3},
		{"\x00\x00", "\x00\x80", 15, 3},
		{"\x00\x00\x00\x00\x00", "\xff\xff\xff\xff\x00", 0, math.MaxUint32},
		{"\x00\x00\x00\x00\x00", "\xfe\xff\xff\xff\x01", 1, math.MaxUint32},
		{"\x00\x00\x00\x00\x00", "\x00\xff\xff\xff\xff", 8, math.MaxUint32},
		{"\x00\x00\x00\x00\x00", "\x00\xfe\xff\xff\xff", 9, math.MaxUint32},
		{"\x00\x00\x00\x00\x00", "\x00\x00\x00\x80\x00", 0, 0x80000000},
		{"\x00\x00\x00\x00\x00", "\x00\x00\x00\x00\x01", 1, 0x80000000},
		{"\x00\x00\x00\x00\x00", "\x00\x00\x00\x00\x80", 39, 1},
		{"\x00\x00\x00\x00\x00", "\x01\x00\x00\x00\x00", 40, 1},
		{"\x12\x34\x56\x78\x9a", "\x12\xc4\x56\x78\x9a", 12, 0xf},
		{"\x00\x00\x00\x00\x00", "\x00\x80\x00\x00\x00", 65535, 1}, // 65535 is 15 of 40
	} {
		if got := Spoil([]byte(x.p), Fault{Spoilt, x.at, x.mask}); string(got) != x.want {
			t.Errorf("%x from %d by %x: %x, not %x", x.p, x.at, x.mask, got, x.want)
		}
	}
}

func TestSpoilOfNone(t *testing.T) {
	for _, p := range [][]byte{nil, {}, make([]byte, 0, 8)} {
		for _, f := range []Fault{{}, {Spoilt, 0, 1}, {Spoilt, 65535, math.MaxUint32}} {
			if got := Spoil(p, f); len(got) != 0 {
				t.Errorf("%v: %x", f, got)
			}
		}
	}
}

func TestSpoilTurnsEachBit(t *testing.T) {
	for size := 1; size <= 9; size++ {
		for at := range size*8 + 9 {
			for bit := range 32 {
				got := Spoil(make([]byte, size), Fault{At: uint16(at), Mask: 1 << bit})
				want := make([]byte, size)
				if turn := at%(size*8) + bit; turn < size*8 {
					want[turn/8] = 1 << (turn % 8)
				}
				if !bytes.Equal(got, want) {
					t.Fatalf("%d bytes, from %d, bit %d: %x, not %x", size, at, bit, got, want)
				}
			}
		}
	}
}

func TestSpoilOfLongOnes(t *testing.T) {
	for _, size := range []int{8191, 8192, 8193, 16384, 20000} {
		for _, at := range []int{0, 1, 32767, 32768, 65504, 65527, 65528, 65535} {
			p := make([]byte, size)
			want := make([]byte, size)
			turned(want, Fault{At: uint16(at), Mask: 0xa5000f81})
			if got := Spoil(p, Fault{At: uint16(at), Mask: 0xa5000f81}); !bytes.Equal(got, want) {
				t.Errorf("%d bytes from %d", size, at)
			}
		}
	}
}

func TestSpoilOfASpoilIsItself(t *testing.T) {
	rolls := rand.New(rand.NewSource(2))
	changed := 0
	for range 5000 {
		p := make([]byte, 1+rolls.Intn(80))
		rolls.Read(p)
		f := Fault{byte(rolls.Uint32()), uint16(rolls.Uint32()), rolls.Uint32()}
		want := slices.Clone(p)
		turned(want, f)
		got := Spoil(p, f)
		if !bytes.Equal(got, want) {
			t.Fatalf("%x by %v: %x, not %x", p, f, got, want)
		}
		if !bytes.Equal(Spoil(got, f), p) {
			t.Fatalf("%x by %v", p, f)
		}
		if !bytes.Equal(got, p) {
			changed++
		}
	}
	if changed < 4000 {
		t.Errorf("too few tell nothing: %d", changed)
	}
}

// TestSpoilAsksNothingOfHow: whatever becomes of the frame, its Spoil hangs on
// At and Mask.
func TestSpoilAsksNothingOfHow(t *testing.T) {
	for n := range math.MaxUint8 + 1 {
		if got := Spoil([]byte{0, 0}, Fault{byte(n), 3, 0x21}); string(got) != "\x08\x01" {
			t.Errorf("%d: %x", n, got)
		}
	}
}

// P18.2: Right

func TestRight(t *testing.T) {
	for n := range math.MaxUint8 + 1 {
		for _, f := range []Fault{{How: byte(n)}, {byte(n), 65535, math.MaxUint32}} {
			if f.Right() != (n <= 5) {
				t.Errorf("%v: %v", f, f.Right())
			}
		}
	}
}

// P1 and the rules of nil objects, memory and values

func TestANilWire(t *testing.T) {
	var w *Wire
	w.Put(nil, nil)
	w.Put(frames("a", "b"), how(Late, Twice))
	if l := w.Take(); len(l) != 0 || w.Waiting() != 0 {
		t.Errorf("%q, %d", l, w.Waiting())
	}
}

// scribble writes over memory up to its spare room.
func scribble(p []byte) {
	p = p[:cap(p)]
	for i := range p {
		p[i] ^= 0xff
	}
}

// roomy answers a frame with spare room, and the memory that it stands in.
func roomy(s string) (p, all []byte) {
	all = append([]byte(s), "spare"...)
	return all[:len(s)], all
}

func TestNothingThatIsHandedInIsKept(t *testing.T) {
	for n := range byte(7) {
		var w, twin Wire
		p, all := roomy("frame")
		l := append(make([][]byte, 0, 4), p, []byte("other"))
		faults := append(make([]Fault, 0, 4), Fault{n, 2, 9}, Fault{n, 2, 9})
		twin.Put(frames("frame", "other"), slices.Clone(faults))
		w.Put(l, faults)
		if string(all) != "framespare" || len(l[:4][2]) != 0 || faults[:4][2] != (Fault{}) {
			t.Errorf("%d: what was handed in has changed", n)
		}
		scribble(p)
		scribble(l[1])
		l[0], l[1] = nil, nil
		clear(faults)
		for i := range 3 {
			if got, want := w.Take(), twin.Take(); !same(got, want) {
				t.Errorf("%d, %d: %q, not %q", n, i, got, want)
			}
		}
	}
}

func TestSpoilIsNewMemory(t *testing.T) {
	for _, mask := range []uint32{0, 1, math.MaxUint32} {
		p, all := roomy("frame")
		got := Spoil(p, Fault{Spoilt, 0, mask})
		want := slices.Clone(got)
		if string(all) != "framespare" {
			t.Errorf("%x: p has changed: %q", mask, all)
		}
		scribble(p)
		if !bytes.Equal(got, want) {
			t.Errorf("%x: it shares memory with p", mask)
		}
		scribble(p)
		scribble(got)
		if string(all) != "framespare" {
			t.Errorf("%x: it shares memory with p", mask)
		}
	}
}

// TestEarlierAnswersStay writes over each answer, and holds those ahead of it to
// what they were.
func TestEarlierAnswersStay(t *testing.T) {
	var w Wire
	w.Put(frames("aa", "bb", "cc", "dd", "ee"), how(Twice, Late, Later, Spoilt, Comes))
	first, second := w.Take(), w.Take()
	third := w.Take()
	for _, p := range third {
		scribble(p)
	}
	clear(third[:cap(third)])
	if !same(second, frames("bb")) {
		t.Errorf("%q", second)
	}
	for _, p := range second {
		scribble(p)
	}
	clear(second[:cap(second)])
	if !same(first, frames("aa", "aa", "dd", "ee")) {
		t.Errorf("%q", first)
	}
}

// TestEachFrameIsItsOwn writes over one frame of an answer at a time: the
// others stay.
func TestEachFrameIsItsOwn(t *testing.T) {
	for i := range 7 {
		var w Wire
		w.Put(frames("aa", "bb", "cc", "dd", "ee"), how(Twice, Late, Twice, Later))
		first := w.Take()
		want := []string{"aa", "aa", "cc", "cc", "ee"}
		if i < len(first) {
			scribble(first[i])
			want[i] = string(first[i])
		}
		if !same(first, frames(want...)) {
			t.Errorf("%d: %q, not %q", i, first, want)
		}
		clear(first[:cap(first)])
		w.Put(frames("ff", "gg"), how(Comes, Late))
		second := w.Take()
		if !same(second, frames("bb", "ff")) {
			t.Errorf("%d: %q", i, second)
		}
		clear(second[:cap(second)])
		mustTake(t, i, &w, "dd", "gg")
	}
}

func TestWhatWasTakenCanBePutAgain(t *testing.T) {
	var w Wire
	w.Put(frames("a", "b", "c"), how(Twice, Late))
	for i, want := range [][]string{{"a", "a", "c"}, {"b", "a", "a", "c"}, {"b", "a", "a", "c"}} {
		got := w.Take()
		if !same(got, frames(want...)) {
			t.Errorf("%d: %q, not %q", i, got, want)
		}
		w.Put(got, nil)
		for _, p := range got {
			scribble(p)
		}
	}
}

func TestWiresHangOnThemselvesAlone(t *testing.T) {
	var a, b Wire
	a.Put(frames("a", "A"), how(Late))
	b.Put(frames("b", "B"), how(Later))
	a.Put(frames("x"), nil)
	mustTake(t, "b", &b, "B")
	mustTake(t, "a", &a, "A", "x")
	mustTake(t, "b", &b)
	mustTake(t, "b", &b, "b")
	mustTake(t, "a", &a, "a")
}

func TestAskingChangesNothing(t *testing.T) {
	var w Wire
	w.Put(frames("a", "b", "c"), how(Late, Comes, Later))
	for i, want := range []string{"b", "a", "c"} {
		for range 3 {
			mustWait(t, i, &w, 3-i)
		}
		mustTake(t, i, &w, want)
	}
}
