package frame

import (
	"bytes"
	"encoding/binary"
	"hash/crc32"
	"math"
	"math/rand"
	"slices"
	"strconv"
	"testing"

	"hoodwink/api"
	"hoodwink/board"
	"hoodwink/delta"
	"hoodwink/mask"
	"hoodwink/order"
)

// halves and words are numbers at the edges.
func halves() []uint16 { return []uint16{0, 1, 2, 255, 256, 0x1234, 1 << 15, math.MaxUint16} }

func words() []uint32 {
	return []uint32{0, 1, 2, 255, 256, 1 << 16, 0x12345678, 1 << 31, math.MaxUint32}
}

// sizes are numbers of bytes, those at the edges among them.
func sizes() []int {
	l := []int{100, 126, 127, 128, 129, 191, 192, 255, 256, 257, 300, 319, 320, 321, 1024, 1025, 1 << 16, 1<<16 + 64}
	for size := range 70 {
		l = append(l, size)
	}
	return l
}

// many answers so many bytes, none of them zero.
func many(size int) []byte {
	p := make([]byte, size)
	for i := range p {
		p[i] = byte(i*7) | 1
	}
	return p
}

// sealed is what the library says of p and its sum.
func sealed(p []byte) []byte {
	sum := crc32.Checksum(p, crc32.MakeTable(crc32.Castagnoli))
	return binary.LittleEndian.AppendUint32(slices.Clone(p), sum)
}

// unsealed is p without its sum.
func unsealed(p []byte) []byte { return slices.Clone(p[:len(p)-4]) }

// written is what the document says of a frame's bytes, ahead of their sum.
func written(f Frame) []byte {
	p := []byte{0x56}
	p = binary.LittleEndian.AppendUint16(p, f.Epoch)
	p = binary.LittleEndian.AppendUint16(p, uint16(f.Seq))
	p = binary.LittleEndian.AppendUint16(p, uint16(f.Ack.Next))
	p = binary.LittleEndian.AppendUint32(p, f.Ack.Bits)
	marks := byte(0)
	for i, set := range []bool{f.First, f.Last, f.Alone} {
		if set {
			marks += []byte{1, 2, 4}[i]
		}
	}
	p = append(p, marks, byte(len(f.Data)))
	return append(p, f.Data...)
}

// may is what the document says of a frame.
func may(f Frame) bool {
	if f.Alone && (f.Seq != 0 || len(f.Data) != 0 || f.First || f.Last) {
		return false
	}
	return len(f.Data) <= 64
}

// isWritten tells whether p is as the document says that a frame's bytes are, their sum left out.
func isWritten(p []byte) bool {
	if len(p) < 13 || p[0] != 0x56 || len(p) != 13+int(p[12]) || p[12] > 64 {
		return false
	}
	switch p[11] {
	case 0, 1, 2, 3:
		return true
	case 4:
		return p[3] == 0 && p[4] == 0 && p[12] == 0
	}
	return false
}

// equal holds two frames against one another without Same.
func equal(a, b Frame) bool {
	data := bytes.Equal(a.Data, b.Data)
	return data && a.Epoch == b.Epoch && a.Seq == b.Seq && a.Ack == b.Ack && a.First == b.First && a.Last == b.Last && a.Alone == b.Alone
}

// some are frames of all sorts, of which there may be none, too.
func some() []Frame {
	var all []Frame
	for marks := range 8 {
		f := Frame{Epoch: 0x0102, Seq: 0x0304, Ack: order.Acks{Next: 0x0506, Bits: 0x0708090a}, First: marks&1 != 0, Last: marks&2 != 0, Alone: marks&4 != 0}
		for _, size := range sizes() {
			f.Data = many(size)
			all = append(all, f)
		}
		f.Data = nil
		for _, n := range halves() {
			for _, seq := range []order.Seq{0, order.Seq(n)} {
				all = append(all,
					Frame{Seq: seq, First: f.First, Last: f.Last, Alone: f.Alone},
					Frame{Seq: seq, Epoch: n, First: f.First, Last: f.Last, Alone: f.Alone},
					Frame{Seq: seq, Ack: order.Acks{Next: order.Seq(n)}, First: f.First, Last: f.Last, Alone: f.Alone},
				)
			}
		}
		for _, n := range words() {
			all = append(all, Frame{Ack: order.Acks{Bits: n}, First: f.First, Last: f.Last, Alone: f.Alone})
		}
	}
	return all
}

// P11.1: Bytes

func TestBytesOfOneFrame(t *testing.T) {
	f := Frame{Epoch: 0x0102, Seq: 0x0304, Ack: order.Acks{Next: 0x0506, Bits: 0x0708090a}, First: true, Data: []byte{0xd1, 0xd2, 0xd3}}
	want := []byte{0x56, 2, 1, 4, 3, 6, 5, 0x0a, 9, 8, 7, 1, 3, 0xd1, 0xd2, 0xd3}
	if got := f.Bytes(); !bytes.Equal(got, sealed(want)) {
		t.Errorf("% x, not % x", got, sealed(want))
	}
	if got := (Frame{}).Bytes(); !bytes.Equal(got, sealed([]byte{0x56, 12: 0})) {
		t.Errorf("the zero frame: % x", got)
	}
	if got := (Frame{Alone: true}).Bytes(); !bytes.Equal(got, sealed([]byte{0x56, 11: 4, 12: 0})) {
		t.Errorf("Alone: % x", got)
	}
}

func TestTheMarksOfAFrame(t *testing.T) {
	for marks, f := range []Frame{{}, {First: true}, {Last: true}, {First: true, Last: true}, {Alone: true}} {
		if p := f.Bytes(); len(p) != 17 || int(p[11]) != marks {
			t.Errorf("%d: % x", marks, p)
		}
	}
}

func TestBytesOfFramesAndBack(t *testing.T) {
	for _, f := range some() {
		p := f.Bytes()
		if !may(f) {
			if len(p) != 0 {
				t.Errorf("%v: there is none, but % x", f, p)
			}
			continue
		}
		if !bytes.Equal(p, sealed(written(f))) {
			t.Errorf("%v: % x, not % x", f, p, sealed(written(f)))
		}
		if back, e := Parse(p); e != api.OK || !equal(back, f) || !Same(back, f) {
			t.Errorf("%v: %v, %v", f, back, e)
		}
	}
}

func TestFramesThatAreNone(t *testing.T) {
	for name, f := range map[string]Frame{
		"65 bytes":                    {Data: many(65)},
		"65 bytes, First":             {First: true, Data: many(65)},
		"65 bytes, Last":              {Last: true, Data: many(65)},
		"255 bytes":                   {Data: many(255)},
		"256 bytes":                   {Data: many(256)},
		"320 bytes":                   {Data: many(320)},
		"a million bytes":             {Data: many(1000000)},
		"Alone, Seq 1":                {Alone: true, Seq: 1},
		"Alone, Seq 65535":            {Alone: true, Seq: 65535},
		"Alone, Seq 256":              {Alone: true, Seq: 256},
		"Alone, a byte":               {Alone: true, Data: []byte{0}},
		"Alone, 64 bytes":             {Alone: true, Data: many(64)},
		"Alone, 65 bytes":             {Alone: true, Data: many(65)},
		"Alone, First":                {Alone: true, First: true},
		"Alone, Last":                 {Alone: true, Last: true},
		"Alone, First, Last":          {Alone: true, First: true, Last: true},
		"Alone, all that it mayn't":   {Alone: true, First: true, Last: true, Seq: 3, Data: many(3)},
		"Alone, of an epoch, and Seq": {Alone: true, Epoch: 1, Seq: 1},
	} {
		if p := f.Bytes(); len(p) != 0 {
			t.Errorf("%s: % x", name, p)
		}
		p := written(f)
		if got, e := Parse(sealed(p)); e != api.ErrForm || !equal(got, Frame{}) {
			t.Errorf("%s: %v, %v of what it would have", name, got, e)
		}
	}
	for name, f := range map[string]Frame{
		"64 bytes":                    {Data: many(64)},
		"no bytes":                    {First: true, Seq: 9},
		"few bytes, not the last one": {Data: many(1)},
		"Alone, an epoch and acks":    {Alone: true, Epoch: 65535, Ack: order.Acks{Next: 65535, Bits: math.MaxUint32}},
		"Alone, a list without bytes": {Alone: true, Data: []byte{}},
	} {
		if p := f.Bytes(); !bytes.Equal(p, sealed(written(f))) {
			t.Errorf("%s: % x", name, p)
		}
	}
}

// P11.1: Parse

// mustNotParse holds Parse to an error.
func mustNotParse(t *testing.T, what any, p []byte, want api.Errno) {
	t.Helper()
	f, e := Parse(p)
	if e != want || !equal(f, Frame{}) || f.Data != nil {
		t.Errorf("%v: %v, %v, not %v", what, f, e, want)
	}
}

func TestParseOfTooFewBytesForASum(t *testing.T) {
	mustNotParse(t, "nil", nil, api.ErrForm)
	mustNotParse(t, "none", []byte{}, api.ErrForm)
	for size := range 4 {
		mustNotParse(t, size, many(size), api.ErrForm)
		mustNotParse(t, size, make([]byte, size), api.ErrForm)
		mustNotParse(t, size, (Frame{}).Bytes()[:size], api.ErrForm)
	}
	mustNotParse(t, "a sum alone", sealed(nil), api.ErrForm)
	mustNotParse(t, "another sum alone", []byte{1, 0, 0, 0}, api.ErrSum)
}

func TestParseOfASpoiltFrame(t *testing.T) {
	for _, f := range []Frame{{}, {Alone: true, Epoch: 7}, {Epoch: 3, Seq: 2, First: true, Data: many(64)}} {
		p := f.Bytes()
		for bit := range len(p) * 8 {
			for _, turned := range []uint64{1, 3, 0x80000001, 0xffffffff, 0x1234567} {
				spoilt := slices.Clone(p)
				for i := range 32 {
					if turned>>i&1 == 1 && bit+i < len(p)*8 {
						spoilt[(bit+i)/8] ^= 1 << ((bit + i) % 8)
					}
				}
				mustNotParse(t, bit, spoilt, api.ErrSum)
			}
		}
		for size := 4; size < len(p); size++ {
			mustNotParse(t, size, p[:size], api.ErrSum)
		}
		mustNotParse(t, "a byte more", append(slices.Clone(p), 0), api.ErrSum)
		mustNotParse(t, "without a sum", unsealed(p), api.ErrSum)
	}
}

// TestTheSumComesAheadOfTheForm spoils frames that have another fault, too.
func TestTheSumComesAheadOfTheForm(t *testing.T) {
	for _, p := range [][]byte{{0x57, 12: 0}, {0x56, 11: 8, 12: 0}, {0x56, 12: 9}, {0x56}, many(13), many(100000)} {
		mustNotParse(t, p[0], sealed(p), api.ErrForm)
		spoilt := sealed(p)
		spoilt[len(spoilt)-1] ^= 0x80
		mustNotParse(t, p[0], spoilt, api.ErrSum)
	}
}

func TestParseOfTooManyOrTooFewBytes(t *testing.T) {
	for _, f := range []Frame{{}, {Alone: true}, {First: true, Data: many(1)}, {Last: true, Data: many(63)}, {Data: many(64)}} {
		p := written(f)
		for size := range len(p) {
			mustNotParse(t, size, sealed(p[:size]), api.ErrForm)
		}
		for _, more := range [][]byte{{0}, {1}, {255}, many(2), many(64), many(243), many(1000)} {
			mustNotParse(t, len(more), sealed(append(slices.Clone(p), more...)), api.ErrForm)
		}
		mustNotParse(t, "sealed twice", sealed(sealed(p)), api.ErrForm)
		for size := range 256 {
			other := slices.Clone(p)
			other[12] = byte(size)
			if size != len(f.Data) {
				mustNotParse(t, size, sealed(other), api.ErrForm)
			}
		}
	}
}

func TestParseOfSizesAboveTheMost(t *testing.T) {
	for size := 65; size < 256; size++ {
		mustNotParse(t, size, sealed(append([]byte{0x56, 11: 3, 12: byte(size)}, many(size)...)), api.ErrForm)
	}
	for size := range 65 { // as two bytes, of seven bits each
		p := append([]byte{0x56, 11: 0, 12: byte(size) | 0x80, 13: 0}, many(size)...)
		mustNotParse(t, size, sealed(p), api.ErrForm)
	}
}

func TestParseOfOtherFirstBytes(t *testing.T) {
	for b := range 256 {
		p := []byte{byte(b), 1, 0, 2, 0, 3, 0, 4, 0, 0, 0, 2, 1, 9}
		if f, e := Parse(sealed(p)); (e == api.OK) != (b == 0x56) || e != api.OK && (e != api.ErrForm || !equal(f, Frame{})) {
			t.Errorf("%x: %v, %v", b, f, e)
		}
	}
}

func TestParseOfAllMarks(t *testing.T) {
	for marks := range 256 {
		for _, seq := range []byte{0, 1} {
			for size := range 2 {
				p := append([]byte{0x56, 1, 0, seq, 0, 3, 0, 4, 0, 0, 0, byte(marks), byte(size)}, many(size)...)
				f, e := Parse(sealed(p))
				if !isWritten(p) {
					mustNotParse(t, marks, sealed(p), api.ErrForm)
				} else if e != api.OK || !bytes.Equal(written(f), p) {
					t.Errorf("%d: %v, %v", marks, f, e)
				}
			}
		}
	}
	mustNotParse(t, "Alone, the high byte of Seq", sealed([]byte{0x56, 4: 1, 11: 4, 12: 0}), api.ErrForm)
}

func TestParseOfMixedBytes(t *testing.T) {
	dice := rand.New(rand.NewSource(11))
	parsed := 0
	for range 50000 {
		p := written(Frame{Epoch: uint16(dice.Uint32()), First: dice.Intn(2) == 0, Data: many(dice.Intn(4))})
		for range dice.Intn(3) {
			p[dice.Intn(len(p))] = byte(dice.Intn(256) & dice.Intn(256) & dice.Intn(256))
		}
		if dice.Intn(4) == 0 {
			p = append(p, many(dice.Intn(3))...)
		}
		f, e := Parse(sealed(p))
		if !isWritten(p) {
			mustNotParse(t, p, sealed(p), api.ErrForm)
			continue
		}
		parsed++
		if e != api.OK || !bytes.Equal(f.Bytes(), sealed(p)) {
			t.Fatalf("% x: %v, %v", p, f, e)
		}
	}
	if parsed < 5000 || parsed > 45000 {
		t.Errorf("%d of 50000 are parsed", parsed)
	}
}

// P11.2: Same

func TestSame(t *testing.T) {
	f := Frame{Epoch: 1, Seq: 2, Ack: order.Acks{Next: 3, Bits: 4}, Data: []byte{5, 6}}
	if !Same(f, f) || !Same(Frame{}, Frame{}) || !Same(Frame{Data: []byte{}}, Frame{}) || !Same(Frame{}, Frame{Data: []byte{}}) {
		t.Error("it isn't itself")
	}
	for name, change := range map[string]func(*Frame){
		"Epoch":          func(f *Frame) { f.Epoch ^= 1 << 15 },
		"Seq":            func(f *Frame) { f.Seq ^= 1 << 15 },
		"Next":           func(f *Frame) { f.Ack.Next ^= 1 << 15 },
		"Bits":           func(f *Frame) { f.Ack.Bits ^= 1 << 31 },
		"First":          func(f *Frame) { f.First = true },
		"Last":           func(f *Frame) { f.Last = true },
		"Alone":          func(f *Frame) { f.Alone = true },
		"First and Last": func(f *Frame) { f.First, f.Last = true, true },
		"all marks":      func(f *Frame) { f.First, f.Last, f.Alone = true, true, true },
		"first byte":     func(f *Frame) { f.Data = []byte{4, 6} },
		"last byte":      func(f *Frame) { f.Data = []byte{5, 7} },
		"a byte less":    func(f *Frame) { f.Data = []byte{5} },
		"a byte more":    func(f *Frame) { f.Data = []byte{5, 6, 0} },
		"bytes turned":   func(f *Frame) { f.Data = []byte{6, 5} },
		"no bytes":       func(f *Frame) { f.Data = nil },
		"all":            func(f *Frame) { *f = Frame{} },
	} {
		other := f
		change(&other)
		if Same(f, other) || Same(other, f) {
			t.Errorf("another %s counts for nothing", name)
		}
		again := other
		again.Data = slices.Clone(other.Data)
		if !Same(other, again) {
			t.Errorf("another %s: it isn't itself", name)
		}
	}
	one := []Frame{{First: true}, {Last: true}, {Alone: true}, {First: true, Last: true}, {First: true, Alone: true}, {}}
	for i, a := range one {
		for j, b := range one {
			if Same(a, b) != (i == j) {
				t.Errorf("%v, %v", a, b)
			}
		}
	}
}

// P11.2: Bytes of messages

// cells answers so many cells, none of them zero.
func cells(size int) []board.Cell {
	l := make([]board.Cell, size)
	for i := range l {
		l[i] = board.Cell{Value: int32(i*0x01020304) - 7, Seen: mask.Mask(i*0x00f1e2d3) | 1}
	}
	return l
}

// told answers a delta of these places.
func told(tick uint32, places ...byte) delta.Delta {
	return delta.Delta{Tick: tick, Hash: 0xa1a2a3a4, Places: places, Cells: cells(len(places))}
}

// places answers the places 0, 1, 2, ..
func places(size int) []byte {
	l := make([]byte, size)
	for i := range l {
		l[i] = byte(i)
	}
	return l
}

// writtenDelta is what the document says of a delta's bytes.
func writtenDelta(d delta.Delta) []byte {
	p := binary.LittleEndian.AppendUint32(nil, d.Tick)
	p = binary.LittleEndian.AppendUint32(p, d.Hash)
	p = append(p, byte(len(d.Places)))
	for i, c := range d.Cells {
		p = append(p, d.Places[i])
		p = binary.LittleEndian.AppendUint32(p, uint32(c.Value))
		p = binary.LittleEndian.AppendUint32(p, uint32(c.Seen))
	}
	return p
}

// rightMessages are messages that may be, with their bytes.
func rightMessages() []struct {
	m Message
	p []byte
} {
	type row = struct {
		m Message
		p []byte
	}
	all := []row{
		{Message{Kind: 1}, []byte{1}},
		{Message{Kind: 3}, []byte{3}},
		{Message{Kind: 4}, []byte{4}},
		{Message{Kind: 1, Delta: delta.Delta{Places: []byte{}, Cells: []board.Cell{}}}, []byte{1}},
		{Message{Kind: 2}, make([]byte, 9)},
		{Message{Kind: 2, Tick: 0x01020304, Move: 0xa1a2a3a4}, []byte{2, 4, 3, 2, 1, 0xa4, 0xa3, 0xa2, 0xa1}},
		{Message{Kind: 2, Delta: delta.Delta{Places: []byte{}, Cells: []board.Cell{}}}, make([]byte, 9)},
	}
	all[4].p[0], all[6].p[0] = 2, 2
	for _, n := range words() {
		all = append(all,
			row{Message{Kind: 2, Tick: n}, append(binary.LittleEndian.AppendUint32([]byte{2}, n), 0, 0, 0, 0)},
			row{Message{Kind: 2, Move: n}, binary.LittleEndian.AppendUint32([]byte{2, 0, 0, 0, 0}, n)},
		)
	}
	var deltas []delta.Delta
	for size := range 49 {
		deltas = append(deltas, told(uint32(size), places(size)...))
	}
	for _, n := range words() {
		deltas = append(deltas, told(n, 1, 5, 47), delta.Delta{Tick: n}, delta.Delta{Hash: n})
	}
	for _, d := range deltas {
		for _, kind := range []byte{5, 6} {
			all = append(all, row{Message{Kind: kind, Tick: d.Tick, Delta: d}, append([]byte{kind}, writtenDelta(d)...)})
		}
	}
	return all
}

// equalMessages holds two messages against one another without Like.
func equalMessages(a, b Message) bool {
	d, e := a.Delta, b.Delta
	lists := slices.Equal(d.Places, e.Places) && slices.Equal(d.Cells, e.Cells)
	return lists && a.Kind == b.Kind && a.Tick == b.Tick && a.Move == b.Move && d.Tick == e.Tick && d.Hash == e.Hash
}

func TestBytesOfMessagesAndBack(t *testing.T) {
	for _, x := range rightMessages() {
		if p := x.m.Bytes(); !bytes.Equal(p, x.p) {
			t.Errorf("%v: % x, not % x", x.m, p, x.p)
		}
		if got := Size(x.m); got != len(x.p) {
			t.Errorf("%v: %d bytes, not %d", x.m, got, len(x.p))
		}
		if back, e := Read(x.p); e != api.OK || !equalMessages(back, x.m) || !Like(back, x.m) {
			t.Errorf("%v: %v, %v", x.m, back, e)
		}
	}
}

func TestTheKindsAreLayerApis(t *testing.T) {
	for _, x := range []struct {
		m    Message
		size int
	}{
		{Message{Kind: api.Hello}, 1},
		{Message{Kind: api.Input, Tick: 1, Move: 2}, 9},
		{Message{Kind: api.Resync}, 1},
		{Message{Kind: api.Bye}, 1},
		{Message{Kind: api.Snapshot, Tick: 3, Delta: told(3, 0, 1)}, 28},
		{Message{Kind: api.Step, Tick: 3, Delta: told(3, 7)}, 19},
	} {
		if p := x.m.Bytes(); len(p) != x.size || p[0] != x.m.Kind || Size(x.m) != x.size {
			t.Errorf("%v: % x, Size %d", x.m, p, Size(x.m))
		}
	}
}

// wrongMessages are messages of which there are none, each for one thing alone.
func wrongMessages() map[string]Message {
	all := map[string]Message{
		"the zero message":                          {},
		"of no kind":                                {Tick: 1, Move: 2},
		"of no kind, with a delta":                  {Tick: 3, Delta: told(3, 1)},
		"Input with a delta":                        {Kind: 2, Tick: 3, Move: 1, Delta: told(3, 1)},
		"Input with a delta's tick":                 {Kind: 2, Tick: 3, Move: 1, Delta: delta.Delta{Tick: 3}},
		"Input with a hash":                         {Kind: 2, Delta: delta.Delta{Hash: 1}},
		"Input with places":                         {Kind: 2, Delta: delta.Delta{Places: places(1)}},
		"Input with cells":                          {Kind: 2, Delta: delta.Delta{Cells: make([]board.Cell, 1)}},
		"Input with a delta that has no bytes":      {Kind: 2, Delta: told(0, 2, 1)},
		"Input with a delta that has no bytes, too": {Kind: 2, Delta: told(0, 48)},
	}
	for _, kind := range []byte{1, 3, 4} {
		name := "bare " + strconv.Itoa(int(kind))
		all[name+" with a tick"] = Message{Kind: kind, Tick: 1}
		all[name+" with a move"] = Message{Kind: kind, Move: 1}
		all[name+" with the highest bits"] = Message{Kind: kind, Move: 1 << 31}
		all[name+" with a delta's tick"] = Message{Kind: kind, Delta: delta.Delta{Tick: 1}}
		all[name+" with a tick, and its delta"] = Message{Kind: kind, Tick: 3, Delta: told(3, 1)}
		all[name+" with a hash"] = Message{Kind: kind, Delta: delta.Delta{Hash: 1 << 31}}
		all[name+" with places"] = Message{Kind: kind, Delta: delta.Delta{Places: places(1)}}
		all[name+" with cells"] = Message{Kind: kind, Delta: delta.Delta{Cells: make([]board.Cell, 1)}}
	}
	for _, kind := range []byte{5, 6} {
		name := "view " + strconv.Itoa(int(kind))
		all[name+" of another tick"] = Message{Kind: kind, Tick: 2, Delta: told(3, 1)}
		all[name+" of a tick more"] = Message{Kind: kind, Tick: 4, Delta: told(3, 1)}
		all[name+" of tick 0"] = Message{Kind: kind, Delta: told(3, 1)}
		all[name+" of a delta of tick 0"] = Message{Kind: kind, Tick: 3, Delta: told(0, 1)}
		all[name+" of another highest bit"] = Message{Kind: kind, Tick: 3 | 1<<31, Delta: told(3, 1)}
		all[name+" with a move"] = Message{Kind: kind, Tick: 3, Move: 1, Delta: told(3, 1)}
		all[name+" with the highest move"] = Message{Kind: kind, Tick: 3, Move: 1 << 31, Delta: told(3, 1)}
		all[name+" of places that fall"] = Message{Kind: kind, Tick: 3, Delta: told(3, 2, 1)}
		all[name+" of a place twice"] = Message{Kind: kind, Tick: 3, Delta: told(3, 2, 2)}
		all[name+" of a place beyond the last one"] = Message{Kind: kind, Tick: 3, Delta: told(3, 48)}
		all[name+" of 49 places"] = Message{Kind: kind, Tick: 3, Delta: told(3, places(49)...)}
		all[name+" of a place without a cell"] = Message{Kind: kind, Delta: delta.Delta{Places: places(1)}}
		all[name+" of a cell without a place"] = Message{Kind: kind, Delta: delta.Delta{Cells: cells(1)}}
	}
	for kind := 7; kind < 256; kind++ {
		name := "kind " + strconv.Itoa(kind)
		all[name] = Message{Kind: byte(kind)}
		all[name+" with a delta"] = Message{Kind: byte(kind), Tick: 3, Delta: told(3, 1)}
		all[name+" with a move"] = Message{Kind: byte(kind), Tick: 3, Move: 1}
	}
	return all
}

func TestMessagesThatAreNone(t *testing.T) {
	for name, m := range wrongMessages() {
		if p := m.Bytes(); len(p) != 0 || Size(m) != 0 {
			t.Errorf("%s: % x, Size %d", name, p, Size(m))
		}
	}
}

// P11.2: Read

// mustNotRead holds Read to ErrForm.
func mustNotRead(t *testing.T, what any, p []byte) {
	t.Helper()
	m, e := Read(p)
	if e != api.ErrForm || !equalMessages(m, Message{}) || m.Delta.Places != nil || m.Delta.Cells != nil {
		t.Errorf("%v: % x: %v, %v", what, p, m, e)
	}
}

func TestReadOfTooManyOrTooFewBytes(t *testing.T) {
	mustNotRead(t, "nil", nil)
	mustNotRead(t, "none", []byte{})
	for _, x := range rightMessages() {
		for size := range len(x.p) {
			mustNotRead(t, size, x.p[:size])
		}
		for _, more := range [][]byte{{0}, {1}, {255}, make([]byte, 8), make([]byte, 9), many(1000)} {
			mustNotRead(t, len(more), append(slices.Clone(x.p), more...))
		}
	}
}

func TestReadOfOtherKinds(t *testing.T) {
	for kind := range 256 {
		for _, rest := range [][]byte{nil, make([]byte, 8), make([]byte, 9), writtenDelta(told(3, 1, 2)), many(7)} {
			p := append([]byte{byte(kind)}, rest...)
			m, e := Read(p)
			switch {
			case !isWrittenMessage(p):
				mustNotRead(t, kind, p)
			case e != api.OK || !bytes.Equal(m.Bytes(), p):
				t.Errorf("% x: %v, %v", p, m, e)
			}
		}
	}
}

func TestReadOfWrongDeltas(t *testing.T) {
	for name, m := range wrongMessages() {
		if m.Kind < 5 || m.Kind > 6 || len(m.Delta.Places) != len(m.Delta.Cells) {
			continue
		}
		if p := writtenDelta(m.Delta); len(m.Delta.Bytes()) == 0 {
			mustNotRead(t, name, append([]byte{m.Kind}, p...))
		}
	}
	p := append([]byte{6}, writtenDelta(told(3, 1, 2))...)
	for size := range 256 {
		p[9] = byte(size)
		if size != 2 {
			mustNotRead(t, size, p)
		}
	}
}

// isWrittenMessage tells whether p is as the document says that a message's bytes are.
func isWrittenMessage(p []byte) bool {
	if len(p) == 0 {
		return false
	}
	switch p[0] {
	case 1, 3, 4:
		return len(p) == 1
	case 2:
		return len(p) == 9
	case 5, 6:
		if len(p) < 10 || len(p) != 10+9*int(p[9]) {
			return false
		}
		least := 0 // that the next place may be
		for i := range int(p[9]) {
			place := int(p[10+9*i])
			if place < least || place > 47 {
				return false
			}
			least = place + 1
		}
		return true
	}
	return false
}

func TestReadOfMixedBytes(t *testing.T) {
	dice := rand.New(rand.NewSource(12))
	rows := rightMessages()
	read := 0
	for range 50000 {
		p := slices.Clone(rows[dice.Intn(len(rows))].p)
		for range dice.Intn(4) {
			p[dice.Intn(min(len(p), 12))] = byte(dice.Intn(256) & dice.Intn(256) & dice.Intn(256))
		}
		switch dice.Intn(6) {
		case 0:
			p = p[:dice.Intn(len(p))]
		case 1:
			p = append(p, many(9)...)
		}
		m, e := Read(p)
		if !isWrittenMessage(p) {
			mustNotRead(t, "mixed", p)
			continue
		}
		read++
		if e != api.OK || !bytes.Equal(m.Bytes(), p) || m.Tick != m.Delta.Tick && m.Kind != 2 {
			t.Fatalf("% x: %v, %v", p, m, e)
		}
	}
	if read < 5000 || read > 45000 {
		t.Errorf("%d of 50000 are read", read)
	}
}

// P11.2: Like

func TestLike(t *testing.T) {
	m := Message{Kind: 6, Tick: 3, Move: 4, Delta: told(3, 1, 5)}
	empty := Message{Delta: delta.Delta{Places: []byte{}, Cells: []board.Cell{}}}
	if !Like(m, m) || !Like(m, copied(m)) || !Like(Message{}, Message{}) || !Like(empty, Message{}) || !Like(Message{}, empty) {
		t.Error("it isn't itself")
	}
	for name, change := range map[string]func(*Message){
		"Kind":          func(m *Message) { m.Kind = 5 },
		"Tick":          func(m *Message) { m.Tick ^= 1 << 31 },
		"Move":          func(m *Message) { m.Move ^= 1 << 31 },
		"delta's tick":  func(m *Message) { m.Delta.Tick ^= 1 << 31 },
		"both ticks":    func(m *Message) { m.Tick, m.Delta.Tick = 4, 4 },
		"hash":          func(m *Message) { m.Delta.Hash ^= 1 << 31 },
		"place":         func(m *Message) { m.Delta.Places[1] = 6 },
		"value":         func(m *Message) { m.Delta.Cells[1].Value++ },
		"label":         func(m *Message) { m.Delta.Cells[0].Seen ^= 1 << 31 },
		"place less":    func(m *Message) { m.Delta.Places = m.Delta.Places[:1] },
		"cell less":     func(m *Message) { m.Delta.Cells = m.Delta.Cells[:1] },
		"no delta":      func(m *Message) { m.Delta = delta.Delta{} },
		"all":           func(m *Message) { *m = Message{} },
		"kind and tick": func(m *Message) { m.Kind, m.Tick = 3, 6 },
	} {
		other := copied(m)
		change(&other)
		if Like(m, other) || Like(other, m) {
			t.Errorf("another %s counts for nothing", name)
		}
		if !Like(other, copied(other)) {
			t.Errorf("another %s: it isn't itself", name)
		}
	}
}

// copied answers a message that shares nothing with m.
func copied(m Message) Message {
	m.Delta.Places, m.Delta.Cells = slices.Clone(m.Delta.Places), slices.Clone(m.Delta.Cells)
	return m
}

// P11.2: Size

func TestSizeOfAStepHangsOnNoValue(t *testing.T) {
	for size := range 49 {
		d := told(3, places(size)...)
		blank := delta.Delta{Tick: 3, Places: places(size), Cells: make([]board.Cell, size)}
		for _, kind := range []byte{api.Snapshot, api.Step} {
			one, two := Size(Message{Kind: kind, Tick: 3, Delta: d}), Size(Message{Kind: kind, Tick: 3, Delta: blank})
			if one != two || one != 10+9*size {
				t.Errorf("%d places: %d, %d", size, one, two)
			}
		}
	}
}

// P1, P2, and the rules of memory and values.

func TestTheSameAnswersTwice(t *testing.T) {
	for _, f := range some() {
		if !bytes.Equal(f.Bytes(), f.Bytes()) {
			t.Errorf("%v", f)
		}
	}
	for name, m := range wrongMessages() {
		was := copied(m)
		if !bytes.Equal(m.Bytes(), m.Bytes()) || Size(m) != Size(m) || !Like(m, was) {
			t.Errorf("%s", name)
		}
	}
}

// overwrite writes over all of p, its spare room too.
func overwrite(p []byte) {
	for i := range p[:cap(p)] {
		p[:cap(p)][i] ^= 0xee
	}
}

func TestFramesShareNoMemory(t *testing.T) {
	room := append(many(20), 1, 2, 3)
	f := Frame{Epoch: 4, Data: room[:20]}
	want := sealed(written(f))
	one, two := f.Bytes(), f.Bytes()
	overwrite(one)
	if !bytes.Equal(two, want) || !bytes.Equal(f.Bytes(), want) || !bytes.Equal(room, append(many(20), 1, 2, 3)) {
		t.Error("Bytes shares memory")
	}
	p := append(slices.Clone(want), 1, 2, 3)
	a, _ := Parse(p[:len(want)])
	b, _ := Parse(p[:len(want)])
	if !bytes.Equal(p, append(slices.Clone(want), 1, 2, 3)) {
		t.Error("Parse changes what was handed in")
	}
	overwrite(p)
	if !equal(a, f) || !equal(b, f) {
		t.Error("a frame shares its memory with its bytes")
	}
	was := slices.Clone(p)
	overwrite(b.Data)
	if !equal(a, f) || !bytes.Equal(p, was) {
		t.Error("two frames share their memory")
	}
}

func TestMessagesShareNoMemory(t *testing.T) {
	for _, m := range []Message{{Kind: 1}, {Kind: 2, Tick: 4, Move: 3}, {Kind: 6, Tick: 3, Delta: told(3, 1, 5, 7)}} {
		was := copied(m)
		want := slices.Clone(m.Bytes())
		one, two := m.Bytes(), m.Bytes()
		overwrite(one)
		if !bytes.Equal(two, want) || !bytes.Equal(m.Bytes(), want) || !equalMessages(m, was) {
			t.Error("Bytes shares memory")
		}
		p := append(slices.Clone(want), 1, 2, 3)
		a, _ := Read(p[:len(want)])
		b, _ := Read(p[:len(want)])
		if !bytes.Equal(p, append(slices.Clone(want), 1, 2, 3)) {
			t.Error("Read changes what was handed in")
		}
		overwrite(p)
		overwrite(b.Delta.Places)
		for i := range b.Delta.Cells[:cap(b.Delta.Cells)] {
			b.Delta.Cells[:cap(b.Delta.Cells)][i] = board.Cell{Value: 99}
		}
		if !equalMessages(a, was) {
			t.Error("a message shares its memory")
		}
	}
}
