package delta

import (
	"bytes"
	"encoding/binary"
	"hash/crc32"
	"math"
	"math/rand"
	"slices"
	"strconv"
	"testing"

	"hoodwink/api"
	"hoodwink/board"
	"hoodwink/mask"
)

// observers are those at the edges, and some that no mask has.
func observers() []int {
	return []int{0, 1, 2, 5, 30, 31, 32, 33, -1, -32, math.MaxInt, math.MinInt}
}

// touches are sets of places: none, all, each alone, those that no board has, and mixed ones.
func touches() []uint64 {
	all := []uint64{0, math.MaxUint64, 1<<48 - 1, ^uint64(1<<48 - 1), 1 << 48, 1<<47 | 1<<48, 0x5555555555555555, 0xaaaaaaaaaaaaaaaa, 0x0000f00ff00f1234}
	for place := range 64 {
		all = append(all, 1<<place)
	}
	return all
}

// many answers so many cells of all sorts of values and labels, none of them zero.
func many(size int) []board.Cell {
	l := make([]board.Cell, size)
	seed := uint64(size)
	for i := range l {
		seed = seed*6364136223846793005 + 1442695040888963407
		l[i] = board.Cell{Value: int32(seed>>32) | 1, Seen: mask.Mask(seed>>20) | 1<<(i%32)}
	}
	return l
}

// some are boards of all sizes.
func some(t *testing.T) []board.Board {
	t.Helper()
	all := []board.Board{
		made(t, board.Cell{}),
		made(t, board.Cell{Value: 7, Seen: 1}, board.Cell{Value: 8, Seen: 3}, board.Cell{Value: 9}),
		made(t, board.Cell{Value: math.MinInt32, Seen: 1 << 31}, board.Cell{Value: -1, Seen: math.MaxUint32}),
		made(t, make([]board.Cell, 48)...),
	}
	for size := range 49 {
		all = append(all, made(t, many(size)...))
	}
	return all
}

// made answers the board of these cells.
func made(t *testing.T, cells ...board.Cell) board.Board {
	t.Helper()
	b, e := board.New(cells...)
	if e != api.OK {
		t.Fatalf("%d cells: %v", len(cells), e)
	}
	return b
}

// first answers the places 0, 1, 2, ..
func first(size int) []byte {
	l := make([]byte, size)
	for i := range l {
		l[i] = byte(i)
	}
	return l
}

// hash is what the library says of the cells.
func hash(cells []board.Cell) uint32 {
	var all []byte
	for _, c := range cells {
		all = binary.LittleEndian.AppendUint32(all, uint32(c.Value))
		all = binary.LittleEndian.AppendUint32(all, uint32(c.Seen))
	}
	return crc32.Checksum(all, crc32.MakeTable(crc32.Castagnoli))
}

// view is what o sees of cells.
func view(cells []board.Cell, o int) []board.Cell {
	l := slices.Clone(cells)
	for i, c := range l {
		if o < 0 || o > 31 || uint32(c.Seen)>>uint(o)%2 == 0 {
			l[i].Value = 0
		}
	}
	return l
}

// written is what the document says of a delta's bytes.
func written(d Delta) []byte {
	p := binary.LittleEndian.AppendUint32(nil, d.Tick)
	p = binary.LittleEndian.AppendUint32(p, d.Hash)
	p = append(p, byte(len(d.Places)))
	for i, place := range d.Places {
		p = append(p, place)
		p = binary.LittleEndian.AppendUint32(p, uint32(d.Cells[i].Value))
		p = binary.LittleEndian.AppendUint32(p, uint32(d.Cells[i].Seen))
	}
	return p
}

// mustBe holds a delta to that which it should be.
func mustBe(t *testing.T, what any, got, want Delta) {
	t.Helper()
	if got.Tick != want.Tick || got.Hash != want.Hash || !slices.Equal(got.Places, want.Places) || !slices.Equal(got.Cells, want.Cells) {
		t.Errorf("%v: %v, not %v", what, got, want)
	}
}

// copied answers a delta that shares nothing with d.
func copied(d Delta) Delta {
	d.Places, d.Cells = slices.Clone(d.Places), slices.Clone(d.Cells)
	return d
}

// P7.1: Of, Full

func TestOf(t *testing.T) {
	for _, b := range some(t) {
		for _, o := range observers() {
			sees := view(b.Cells(), o)
			for _, touched := range touches() {
				want := Delta{Tick: 0x01020304, Hash: hash(sees)}
				for place, c := range sees {
					if touched&(1<<place) != 0 {
						want.Places = append(want.Places, byte(place))
						want.Cells = append(want.Cells, c)
					}
				}
				mustBe(t, []any{b.Len(), o, touched}, Of(b, touched, o, 0x01020304), want)
			}
		}
	}
}

func TestFull(t *testing.T) {
	for _, b := range some(t) {
		for _, o := range observers() {
			sees := view(b.Cells(), o)
			want := Delta{Tick: 9, Hash: hash(sees), Places: first(b.Len()), Cells: sees}
			mustBe(t, []any{b.Len(), o}, Full(b, o, 9), want)
			mustBe(t, []any{b.Len(), o, "of all bits"}, Of(b, math.MaxUint64, o, 9), want)
		}
	}
}

func TestTheTickIsTold(t *testing.T) {
	b := made(t, many(3)...)
	for _, tick := range []uint32{0, 1, 255, 256, 1 << 31, math.MaxUint32} {
		if Of(b, 2, 0, tick).Tick != tick || Full(b, 0, tick).Tick != tick {
			t.Errorf("%d", tick)
		}
	}
}

// TestTheHashIsOfTheWholeView looks at views of which one cell was told: the others count, and what isn't seen doesn't.
func TestTheHashIsOfTheWholeView(t *testing.T) {
	a := made(t, board.Cell{Value: 7, Seen: 1}, board.Cell{Value: 8, Seen: 3}, board.Cell{Value: 9})
	b := made(t, board.Cell{Value: 6, Seen: 1}, board.Cell{Value: 8, Seen: 3}, board.Cell{Value: 5})
	if Of(a, 2, 0, 1).Hash == Of(b, 2, 0, 1).Hash || Of(a, 0, 0, 1).Hash == Of(b, 0, 0, 1).Hash {
		t.Error("a cell that wasn't touched counts for nothing")
	}
	if !Same(Of(a, 7, 1, 1), Of(b, 7, 1, 1)) {
		t.Error("what isn't seen counts")
	}
}

// P7.1: Apply

func TestApply(t *testing.T) {
	at := made(t, many(5)...)
	cells := at.Cells()
	c, d, e := board.Cell{Value: -4, Seen: 6}, board.Cell{Value: 5}, board.Cell{Seen: math.MaxUint32}
	for _, x := range []struct {
		name   string
		places []byte
		cells  []board.Cell
		want   []board.Cell
	}{
		{"nothing", nil, nil, cells},
		{"one", []byte{2}, []board.Cell{c}, []board.Cell{cells[0], cells[1], c, cells[3], cells[4]}},
		{"the first and the last one", []byte{0, 4}, []board.Cell{c, d}, []board.Cell{c, cells[1], cells[2], cells[3], d}},
		{"falling", []byte{3, 1}, []board.Cell{c, d}, []board.Cell{cells[0], d, cells[2], c, cells[4]}},
		{"one place twice", []byte{1, 1}, []board.Cell{c, d}, []board.Cell{cells[0], d, cells[2], cells[3], cells[4]}},
		{"one place three times", []byte{1, 2, 1, 1}, []board.Cell{c, d, d, e}, []board.Cell{cells[0], e, d, cells[3], cells[4]}},
		{"places without a cell", []byte{1, 2, 3}, []board.Cell{c}, []board.Cell{cells[0], c, cells[2], cells[3], cells[4]}},
		{"places that aren't there, without a cell", []byte{1, 5, 255}, []board.Cell{c}, []board.Cell{cells[0], c, cells[2], cells[3], cells[4]}},
		{"only places", []byte{200, 1}, nil, cells},
		{"cells without a place", []byte{1}, []board.Cell{c, d, e}, []board.Cell{cells[0], c, cells[2], cells[3], cells[4]}},
		{"only cells", nil, many(60), cells},
		{"what is there", []byte{0, 1, 2, 3, 4}, cells, cells},
		{"all", []byte{0, 1, 2, 3, 4}, []board.Cell{c, c, c, c, d}, []board.Cell{c, c, c, c, d}},
		{"many times all", bytes.Repeat(first(5), 100), slices.Repeat([]board.Cell{c, d, e, c, d}, 100), []board.Cell{c, d, e, c, d}},
	} {
		right := Delta{Tick: 3, Hash: hash(x.want), Places: x.places, Cells: x.cells}
		if got, e := right.Apply(at); e != api.OK || got != made(t, x.want...) {
			t.Errorf("%s: %v, %v", x.name, e, got)
		}
		for _, other := range []uint32{right.Hash + 1, right.Hash ^ 1<<31, 0, ^right.Hash} {
			wrong := Delta{Tick: 3, Hash: other, Places: x.places, Cells: x.cells}
			if got, e := wrong.Apply(at); e != api.ErrHash || got != at {
				t.Errorf("%s, another hash: %v, %v", x.name, e, got)
			}
		}
	}
}

func TestApplyWhereThereIsNoCell(t *testing.T) {
	c := board.Cell{Value: 3, Seen: 3}
	for _, b := range some(t) {
		size := b.Len()
		for place := size; place < 256; place++ {
			alone := Delta{Places: []byte{byte(place)}, Cells: []board.Cell{c}}
			last := Delta{Places: append(first(size), byte(place)), Cells: slices.Repeat([]board.Cell{c}, size+1)} // others were put ahead of it
			ahead := Delta{Places: append([]byte{byte(place)}, first(size)...), Cells: last.Cells}
			for _, d := range []Delta{alone, last, ahead} {
				for _, h := range []uint32{b.Hash(), b.Hash() + 1, hash(d.Cells), 0} { // ErrIndex comes ahead of ErrHash
					d.Hash = h
					if got, e := d.Apply(b); e != api.ErrIndex || got != b {
						t.Fatalf("%d cells, %d: %v, %v", size, place, e, got)
					}
				}
			}
		}
	}
}

func TestApplyToAnotherView(t *testing.T) {
	a := made(t, board.Cell{Value: 7, Seen: 1}, board.Cell{Value: 8, Seen: 3})
	b, _ := a.Put(0, board.Cell{Value: 70, Seen: 1})
	d := Of(b, 1, 0, 1)
	for _, other := range [][]board.Cell{
		{{Value: 7, Seen: 1}, {Value: 9, Seen: 3}},
		{{Value: 7, Seen: 1}, {Value: 8, Seen: 7}},
		{{Value: 7, Seen: 1}, {Value: 8, Seen: 3}, {}},
		{{Value: 7, Seen: 1}},
	} {
		at := made(t, other...)
		if got, e := d.Apply(at); e != api.ErrHash || got != at {
			t.Errorf("%v: %v, %v", other, e, got)
		}
	}
	if got, e := d.Apply(made(t, board.Cell{Value: 1}, board.Cell{Value: 8, Seen: 3})); e != api.OK || got != b {
		t.Errorf("another cell where it puts one: %v, %v", e, got)
	}
}

func TestTheZeroDeltaIsOfTheBoardWithoutCells(t *testing.T) {
	if b, e := (Delta{}).Apply(board.Board{}); e != api.OK || b != (board.Board{}) {
		t.Errorf("Apply: %v, %v", e, b)
	}
	if b, e := (Delta{}).Board(); e != api.OK || b != (board.Board{}) {
		t.Errorf("Board: %v, %v", e, b)
	}
	mustBe(t, "Full", Full(board.Board{}, 3, 0), Delta{})
}

// P7.1: Board

func TestBoard(t *testing.T) {
	for _, b := range some(t) {
		for _, o := range observers() {
			d := Full(b, o, 5)
			if got, e := d.Board(); e != api.OK || got != b.View(o) {
				t.Errorf("%d cells, %d: %v, %v", b.Len(), o, e, got)
			}
			for _, bit := range []int{0, 15, 31} {
				d.Hash ^= 1 << bit
				if got, e := d.Board(); e != api.ErrHash || got != (board.Board{}) {
					t.Errorf("%d cells, %d, another hash: %v, %v", b.Len(), o, e, got)
				}
				d.Hash ^= 1 << bit
			}
		}
	}
}

// notFull are deltas of which Board makes none, whatever their hash.
func notFull() map[string]Delta {
	all := map[string]Delta{
		"no place":             {Cells: many(1)},
		"no cell":              {Places: first(1)},
		"a cell more":          {Places: first(4), Cells: many(5)},
		"a cell less":          {Places: first(5), Cells: many(4)},
		"not from 0 on":        {Places: []byte{1}, Cells: many(1)},
		"all one further":      {Places: []byte{1, 2, 3}, Cells: many(3)},
		"one is left out":      {Places: []byte{0, 1, 3}, Cells: many(3)},
		"the first twice":      {Places: []byte{0, 0, 2}, Cells: many(3)},
		"the last twice":       {Places: []byte{0, 1, 1}, Cells: many(3)},
		"another order":        {Places: []byte{1, 0, 2}, Cells: many(3)},
		"falling":              {Places: []byte{2, 1, 0}, Cells: many(3)},
		"the last is 255":      {Places: []byte{0, 1, 255}, Cells: many(3)},
		"a place in the midst": {Places: []byte{0, 4, 2}, Cells: many(3)},
	}
	for _, size := range []int{49, 50, 64, 255, 256, 257, 304, 512, 70000} {
		n := strconv.Itoa(size)
		all[n+" places"] = Delta{Places: first(size), Cells: many(size)}
		all["48 places, "+n+" cells"] = Delta{Places: first(48), Cells: many(size)}
		all[n+" places, 48 cells"] = Delta{Places: first(size), Cells: many(48)}
	}
	return all
}

func TestBoardOfOtherPlaces(t *testing.T) {
	for name, d := range notFull() {
		for _, h := range []uint32{0, hash(d.Cells), hash(d.Cells) + 1} { // ErrForm comes ahead of ErrHash
			d.Hash = h
			if got, e := d.Board(); e != api.ErrForm || got != (board.Board{}) {
				t.Errorf("%s: %v, %v", name, e, got)
			}
		}
	}
	b := made(t, many(48)...)
	for place := range 48 {
		d := Of(b, everyBut(place), 0, 1)
		if got, e := d.Board(); place < 47 && (e != api.ErrForm || got != (board.Board{})) {
			t.Errorf("without %d: %v, %v", place, e, got)
		}
		d = Full(b, 0, 1)
		d.Places[place]++
		if got, e := d.Board(); e != api.ErrForm || got != (board.Board{}) {
			t.Errorf("%d is one further: %v, %v", place, e, got)
		}
	}
}

// everyBut is all bits but one.
func everyBut(place int) uint64 { return ^(uint64(1) << place) }

// P7.2: Bytes

func TestBytesOfOne(t *testing.T) {
	d := Delta{Tick: 0x01020304, Hash: 0xa1a2a3a4, Places: []byte{47}, Cells: []board.Cell{{Value: -2, Seen: 0x80000001}}}
	want := []byte{4, 3, 2, 1, 0xa4, 0xa3, 0xa2, 0xa1, 1, 47, 0xfe, 0xff, 0xff, 0xff, 1, 0, 0, 0x80}
	if got := d.Bytes(); !bytes.Equal(got, want) {
		t.Errorf("% x, not % x", got, want)
	}
	if got := (Delta{}).Bytes(); !bytes.Equal(got, make([]byte, 9)) {
		t.Errorf("of nothing: % x", got)
	}
	if got := len(Of(made(t, many(3)...), 2, 0, 1).Bytes()); got != 18 {
		t.Errorf("one cell touched: %d bytes", got)
	}
}

func TestBytesAndBack(t *testing.T) {
	for _, b := range some(t) {
		for _, o := range []int{0, 1, 31, 32} {
			for _, touched := range touches() {
				d := Of(b, touched, o, math.MaxUint32-uint32(touched))
				p := d.Bytes()
				if !bytes.Equal(p, written(d)) {
					t.Fatalf("%v: % x, not % x", d, p, written(d))
				}
				back, e := Parse(p)
				if e != api.OK {
					t.Fatalf("%v: %v", d, e)
				}
				mustBe(t, "back", back, d)
			}
		}
	}
}

// wrong are deltas that have no bytes: beside those of which there is no board, some.
func wrong() map[string]Delta {
	return map[string]Delta{
		"no place":             {Cells: many(1)},
		"no cell":              {Places: first(1)},
		"a cell more":          {Places: first(4), Cells: many(5)},
		"a cell less":          {Places: first(5), Cells: many(4)},
		"falling":              {Places: []byte{2, 1}, Cells: many(2)},
		"falling at the end":   {Places: []byte{1, 3, 2}, Cells: many(3)},
		"falling at first":     {Places: []byte{3, 1, 4}, Cells: many(3)},
		"one place twice":      {Places: []byte{4, 4}, Cells: many(2)},
		"0 twice":              {Places: []byte{0, 0}, Cells: many(2)},
		"the last twice":       {Places: []byte{0, 3, 3}, Cells: many(3)},
		"48":                   {Places: []byte{48}, Cells: many(1)},
		"255":                  {Places: []byte{255}, Cells: many(1)},
		"48 behind others":     {Places: []byte{0, 1, 48}, Cells: many(3)},
		"49 places":            {Places: first(49), Cells: many(49)},
		"256 places":           {Places: first(256), Cells: many(256)},
		"257 places":           {Places: first(257), Cells: many(257)},
		"49 places, 48 cells":  {Places: first(49), Cells: many(48)},
		"48 places, 49 cells":  {Places: first(48), Cells: many(49)},
		"1 place, 257 cells":   {Places: first(1), Cells: many(257)},
		"49 places of nothing": {Places: make([]byte, 49), Cells: many(49)},
	}
}

func TestWhatHasNoBytes(t *testing.T) {
	for name, d := range wrong() {
		if got := d.Bytes(); len(got) != 0 {
			t.Errorf("%s: % x", name, got)
		}
	}
	for place := range 256 {
		d := Delta{Places: []byte{byte(place)}, Cells: many(1)}
		if got := len(d.Bytes()); (got == 18) != (place < 48) || got != 18 && got != 0 {
			t.Errorf("%d: %d bytes", place, got)
		}
	}
}

// P7.2: Parse

// mustHaveForm holds Parse to ErrForm.
func mustHaveForm(t *testing.T, what any, p []byte) {
	t.Helper()
	d, e := Parse(p)
	if e != api.ErrForm {
		t.Errorf("%v: %v", what, e)
	}
	mustBe(t, what, d, Delta{})
	if d.Places != nil || d.Cells != nil {
		t.Errorf("%v: lists beside an error", what)
	}
}

func TestParseOfTooManyOrTooFewBytes(t *testing.T) {
	mustHaveForm(t, "nil", nil)
	mustHaveForm(t, "none", []byte{})
	for _, size := range []int{0, 1, 2, 47, 48} {
		p := Full(made(t, many(size)...), 0, 7).Bytes()
		for n := range p {
			mustHaveForm(t, []int{size, n}, p[:n])
		}
		for _, more := range [][]byte{{0}, {255}, make([]byte, 8), make([]byte, 9), make([]byte, 10), p} {
			mustHaveForm(t, []int{size, len(more)}, slices.Concat(p, more))
		}
	}
}

func TestParseOfWhatHasNoBytes(t *testing.T) {
	for name, d := range wrong() {
		if len(d.Places) == len(d.Cells) {
			mustHaveForm(t, name, written(d))
		}
	}
	for size := range 256 { // as many places as a byte tells
		d := Delta{Places: first(size), Cells: many(size)}
		if back, e := Parse(written(d)); size <= 48 {
			if e != api.OK {
				t.Errorf("%d places: %v", size, e)
			}
			mustBe(t, size, back, d)
			continue
		}
		mustHaveForm(t, size, written(d))
	}
}

// TestParseAndBack spoils bytes in many ways: what is parsed has just these bytes.
func TestParseAndBack(t *testing.T) {
	dice := rand.New(rand.NewSource(4))
	parsed := 0
	for range 50000 {
		size := dice.Intn(4)
		p := Of(made(t, many(4)...), dice.Uint64()&(1<<size-1), dice.Intn(33), dice.Uint32()).Bytes()
		for range dice.Intn(3) {
			p[dice.Intn(len(p))] = byte(dice.Intn(256) >> dice.Intn(8))
		}
		if dice.Intn(12) == 0 {
			p = p[:dice.Intn(len(p))]
		}
		d, e := Parse(p)
		if e == api.OK {
			parsed++
			if got := d.Bytes(); !bytes.Equal(got, p) {
				t.Fatalf("% x has the bytes % x", p, got)
			}
			continue
		}
		mustHaveForm(t, p, p)
		if isWritten(p) {
			t.Fatalf("% x: %v", p, e)
		}
	}
	if parsed < 10000 || parsed > 45000 {
		t.Errorf("%d of 50000 are parsed", parsed)
	}
}

// isWritten tells whether p is as the document says that a delta's bytes are.
func isWritten(p []byte) bool {
	if len(p) < 9 || len(p) != 9+9*int(p[8]) {
		return false
	}
	least := 0 // that the next place may be
	for i := range int(p[8]) {
		place := int(p[9+9*i])
		if place < least || place > 47 {
			return false
		}
		least = place + 1
	}
	return true
}

// P7.2: Same

func TestSame(t *testing.T) {
	d := Delta{Tick: 3, Hash: 4, Places: []byte{1, 5}, Cells: many(2)}
	if !Same(d, d) || !Same(d, copied(d)) || !Same(copied(d), d) {
		t.Error("it isn't itself")
	}
	for name, change := range map[string]func(*Delta){
		"tick":              func(d *Delta) { d.Tick ^= 1 << 31 },
		"hash":              func(d *Delta) { d.Hash ^= 1 << 31 },
		"first place":       func(d *Delta) { d.Places[0] = 2 },
		"last place":        func(d *Delta) { d.Places[1] = 6 },
		"places turned":     func(d *Delta) { slices.Reverse(d.Places) },
		"a place less":      func(d *Delta) { d.Places = d.Places[:1] },
		"a place more":      func(d *Delta) { d.Places = append(d.Places, 7) },
		"a place of 0 more": func(d *Delta) { d.Places = append(d.Places, 0) },
		"no places":         func(d *Delta) { d.Places = nil },
		"first value":       func(d *Delta) { d.Cells[0].Value++ },
		"last value":        func(d *Delta) { d.Cells[1].Value++ },
		"first label":       func(d *Delta) { d.Cells[0].Seen ^= 1 << 31 },
		"last label":        func(d *Delta) { d.Cells[1].Seen ^= 1 },
		"cells turned":      func(d *Delta) { slices.Reverse(d.Cells) },
		"a cell less":       func(d *Delta) { d.Cells = d.Cells[:1] },
		"a cell more":       func(d *Delta) { d.Cells = append(d.Cells, board.Cell{}) },
		"no cells":          func(d *Delta) { d.Cells = nil },
		"all":               func(d *Delta) { *d = Delta{} },
	} {
		other := copied(d)
		change(&other)
		if Same(d, other) || Same(other, d) {
			t.Errorf("another %s counts for nothing", name)
		}
		if !Same(other, copied(other)) {
			t.Errorf("another %s: it isn't itself", name)
		}
	}
	if empty := (Delta{Places: []byte{}, Cells: []board.Cell{}}); !Same(empty, Delta{}) || !Same(Delta{}, empty) {
		t.Error("nil and empty lists aren't the same")
	}
}

// P7.2: Size

func TestSize(t *testing.T) {
	for _, b := range some(t) {
		for _, touched := range touches() {
			want := 9
			for place := range b.Len() {
				want += 9 * int(touched>>place&1)
			}
			if got := Size(touched, b); got != want {
				t.Errorf("%d cells, %x: %d, not %d", b.Len(), touched, got, want)
			}
			for _, o := range observers() {
				if got := len(Of(b, touched, o, 1).Bytes()); got != want {
					t.Errorf("%d cells, %x, %d: %d bytes, not %d", b.Len(), touched, o, got, want)
				}
			}
		}
	}
	if got := Size(math.MaxUint64, board.Board{}); got != 9 {
		t.Errorf("of no cells: %d", got)
	}
}

// TestSizeHangsOnNoValue lays other values and labels where those of many are.
func TestSizeHangsOnNoValue(t *testing.T) {
	for size := range 49 {
		for _, touched := range touches() {
			if Size(touched, made(t, many(size)...)) != Size(touched, made(t, make([]board.Cell, size)...)) {
				t.Errorf("%d cells, %x", size, touched)
			}
		}
	}
}

// P7.3

// stepped answers a board behind a step, and the places that it touched.
func stepped(t *testing.T, dice *rand.Rand, b board.Board) (board.Board, uint64) {
	t.Helper()
	touched := uint64(0)
	for range dice.Intn(6) {
		place := dice.Intn(b.Len())
		touched |= 1 << place
		e := api.OK
		if dice.Intn(2) == 0 {
			b, e = b.Put(place, board.Cell{Value: int32(dice.Uint32()), Seen: mask.Mask(dice.Uint32() & dice.Uint32())})
		} else {
			b, _, e = b.Show(place, mask.Mask(dice.Uint32()&dice.Uint32()))
		}
		if e != api.OK {
			t.Fatal(e)
		}
	}
	return b, touched
}

func TestOneWhoIsToldKnows(t *testing.T) {
	dice := rand.New(rand.NewSource(7))
	for _, size := range []int{1, 2, 3, 17, 47, 48} {
		b := made(t, many(size)...)
		known := map[int]board.Board{}
		for _, o := range observers() {
			known[o], _ = Full(b, o, 0).Board()
		}
		for tick := range uint32(200) {
			next, touched := stepped(t, dice, b)
			for _, o := range observers() {
				d, e := Parse(Of(next, touched|dice.Uint64()&dice.Uint64(), o, tick).Bytes()) // what was touched may be as it was
				if e != api.OK {
					t.Fatal(e)
				}
				now, e := d.Apply(known[o])
				if e != api.OK || now != next.View(o) {
					t.Fatalf("%d cells, %d, tick %d: %v, %v", size, o, tick, e, now)
				}
				known[o] = now
			}
			b = next
		}
	}
}

func TestAStepOfWhichTooLittleIsTold(t *testing.T) {
	a := made(t, many(10)...)
	for place := range 10 {
		b, _ := a.Put(place, board.Cell{Value: 2, Seen: 1})
		if got, e := Of(b, everyBut(place), 0, 1).Apply(a.View(0)); e != api.ErrHash || got != a.View(0) {
			t.Errorf("%d: %v, %v", place, e, got)
		}
	}
}

// P3

// TestWhatIsToldSaysNothingOfWhatIsNotSeen holds what one is told of boards against one another that are alike for it.
func TestWhatIsToldSaysNothingOfWhatIsNotSeen(t *testing.T) {
	dice := rand.New(rand.NewSource(3))
	for _, b := range some(t) {
		for _, o := range observers() {
			other := b.Cells()
			for i, c := range other {
				if !c.Seen.Has(o) {
					other[i].Value = int32(dice.Uint32())
				}
			}
			for _, touched := range touches() {
				if !bytes.Equal(Of(b, touched, o, 1).Bytes(), Of(made(t, other...), touched, o, 1).Bytes()) {
					t.Errorf("%d cells, %d, %x: another delta", b.Len(), o, touched)
				}
			}
			if !bytes.Equal(Full(b, o, 1).Bytes(), Full(made(t, other...), o, 1).Bytes()) {
				t.Errorf("%d cells, %d: another full delta", b.Len(), o)
			}
		}
	}
}

// P1, P2, and the rules of memory and values.

func TestCallsEndAndDoNotPanic(t *testing.T) {
	deltas := []Delta{{}, {Places: []byte{}, Cells: []board.Cell{}}}
	for _, d := range notFull() {
		deltas = append(deltas, d)
	}
	for _, d := range wrong() {
		deltas = append(deltas, d)
	}
	for _, d := range deltas {
		was := copied(d)
		for _, b := range []board.Board{{}, made(t, many(1)...), made(t, many(48)...)} {
			one, first := d.Apply(b)
			other, second := d.Apply(b)
			if one != other || first != second {
				t.Errorf("%v: Apply answers another thing the second time", d)
			}
		}
		one, first := d.Board()
		other, second := d.Board()
		if one != other || first != second || !bytes.Equal(d.Bytes(), d.Bytes()) {
			t.Errorf("%v: another answer the second time", d)
		}
		Same(d, Delta{})
		mustBe(t, "handed in", d, was)
	}
}

func TestDeltasShareNoMemory(t *testing.T) {
	b := made(t, many(20)...)
	for _, told := range []func() Delta{
		func() Delta { return Of(b, 0xff0ff, 0, 1) },
		func() Delta { return Full(b, 0, 1) },
	} {
		one, two := told(), told()
		was := copied(two)
		overwrite(one)
		mustBe(t, "another answer", two, was)
		mustBe(t, "an answer behind it", told(), was)
	}
	if b != made(t, many(20)...) {
		t.Error("the board is another one")
	}
}

// overwrite writes over all that d has, the spare room too.
func overwrite(d Delta) {
	for i := range d.Places[:cap(d.Places)] {
		d.Places[:cap(d.Places)][i] = 99
	}
	for i := range d.Cells[:cap(d.Cells)] {
		d.Cells[:cap(d.Cells)][i] = board.Cell{Value: 99, Seen: 99}
	}
}

func TestWhatIsHandedInStays(t *testing.T) {
	view := made(t, many(5)...)
	places, cells := []byte{1, 3, 4, 200, 201}, many(8)
	d := Delta{Tick: 1, Places: places[:2], Cells: cells[:3]}
	after, _ := view.Put(1, cells[0])
	after, _ = after.Put(3, cells[1])
	d.Hash = after.Hash()
	if got, e := d.Apply(view); e != api.OK || got != after {
		t.Errorf("Apply: %v, %v", e, got)
	}
	d.Cells = cells[:2]
	d.Bytes()
	d.Board()
	Same(d, copied(d))
	if !bytes.Equal(places, []byte{1, 3, 4, 200, 201}) || !slices.Equal(cells, many(8)) || view != made(t, many(5)...) {
		t.Error("what was handed in is changed")
	}
}

func TestBytesShareNoMemory(t *testing.T) {
	d := Full(made(t, many(6)...), 0, 8)
	want := written(d)
	one, two := d.Bytes(), d.Bytes()
	for i := range one[:cap(one)] {
		one[:cap(one)][i] = 0xee
	}
	if !bytes.Equal(two, want) || !bytes.Equal(d.Bytes(), want) {
		t.Error("two answers share their memory")
	}
	p := append(slices.Clone(want), 1, 2, 3)[:len(want)]
	a, _ := Parse(p)
	if !bytes.Equal(p[:len(want)+3], append(slices.Clone(want), 1, 2, 3)) {
		t.Error("Parse changes what was handed in")
	}
	b, _ := Parse(p)
	clear(p[:cap(p)])
	mustBe(t, "of what is written over", a, d)
	overwrite(b)
	mustBe(t, "beside one that is written over", a, d)
	overwrite(a)
	if p[:cap(p)][0] != 0 || bytes.ContainsAny(p[:cap(p)], "\x63") {
		t.Error("a delta and its bytes share their memory")
	}
}
