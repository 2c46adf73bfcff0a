package board

import (
	"encoding/binary"
	"hash/crc32"
	"math"
	"slices"
	"testing"

	"hoodwink/api"
	"hoodwink/mask"
	"hoodwink/wax"
)

// places are those that no board has, whatever its size.
func places() []int {
	return []int{math.MinInt, math.MinInt32, -1 << 40, -48, -1, 48, 49, 64, 255, 256, math.MaxInt32, 1 << 32, math.MaxInt}
}

// observers are those at the edges, and some that no mask has.
func observers() []int {
	return []int{0, 1, 2, 5, 30, 31, 32, 33, 64, -1, -31, -32, math.MaxInt, math.MinInt}
}

// many answers so many cells of all sorts of values and labels, none of them zero.
func many(size int) []Cell {
	l := make([]Cell, size)
	seed := uint64(size)
	for i := range l {
		seed = seed*6364136223846793005 + 1442695040888963407
		l[i] = Cell{int32(seed>>32) | 1, mask.Mask(seed>>20) | 1<<(i%32)}
	}
	return l
}

// some are lists of cells of all sizes.
func some() [][]Cell {
	all := [][]Cell{nil, {{}}, {{7, 1}}, {{0, 1}}, {{7, 0}}, {{}, {}}, {{7, 1}, {8, 3}, {9, 0}}, make([]Cell, 48),
		{{math.MinInt32, 1 << 31}, {math.MaxInt32, math.MaxUint32}, {-1, 0}, {0, math.MaxUint32}}}
	for _, size := range []int{1, 2, 3, 10, 32, 47, 48} {
		all = append(all, many(size))
	}
	return all
}

// made answers the board of these cells.
func made(t *testing.T, cells ...Cell) Board {
	t.Helper()
	b, e := New(cells...)
	if e != api.OK {
		t.Fatalf("%d cells: %v", len(cells), e)
	}
	return b
}

// mustHave holds a board to the cells that it should have.
func mustHave(t *testing.T, what any, b Board, want []Cell) {
	t.Helper()
	if b.Len() != len(want) {
		t.Errorf("%v: %d cells, not %d", what, b.Len(), len(want))
	}
	if got := b.Cells(); !slices.Equal(got, want) {
		t.Errorf("%v: %v, not %v", what, got, want)
	}
	if b != made(t, want...) {
		t.Errorf("%v: another board than one that is made of its cells", what)
	}
}

// with answers another list, with c at i.
func with(cells []Cell, i int, c Cell) []Cell {
	l := slices.Clone(cells)
	l[i] = c
	return l
}

// P6.1: New, Len, At, Cells

func TestNew(t *testing.T) {
	for _, cells := range some() {
		b, e := New(cells...)
		if e != api.OK {
			t.Errorf("%d cells: %v", len(cells), e)
		}
		mustHave(t, len(cells), b, cells)
	}
	for size := range 49 {
		mustHave(t, size, made(t, many(size)...), many(size))
	}
}

func TestNewOfTooMany(t *testing.T) {
	for _, size := range []int{49, 50, 96, 97, 256, 304, 70000} {
		for _, cells := range [][]Cell{many(size), make([]Cell, size)} {
			if b, e := New(cells...); e != api.ErrFull || b != (Board{}) {
				t.Errorf("%d cells: %v, %v", size, e, b)
			}
		}
	}
}

func TestTheZeroBoardHasNoCells(t *testing.T) {
	for _, b := range []Board{{}, made(t), made(t, []Cell{}...), made(t)} {
		if b != (Board{}) || b.Len() != 0 || len(b.Cells()) != 0 || len(b.Shown(0)) != 0 {
			t.Errorf("%v", b)
		}
	}
}

func TestBoardsAreHeldAgainstOneAnother(t *testing.T) {
	for i, a := range some() {
		for j, b := range some() {
			if (made(t, a...) == made(t, b...)) != slices.Equal(a, b) {
				t.Errorf("lists %d and %d", i, j)
			}
		}
	}
	b := made(t, many(48)...)
	for i, c := range many(48) {
		for _, other := range []Cell{{c.Value + 1, c.Seen}, {c.Value, c.Seen ^ 1<<31}, {-c.Value, c.Seen}} {
			if made(t, with(many(48), i, other)...) == b {
				t.Errorf("%v at %d counts for nothing", other, i)
			}
		}
	}
	if made(t, Cell{}) == made(t) || made(t, Cell{7, 1}) == made(t, Cell{7, 1}, Cell{}) {
		t.Error("a cell of nothing counts for nothing")
	}
	if made(t, Cell{1, 2}, Cell{3, 4}) == made(t, Cell{3, 4}, Cell{1, 2}) || made(t, Cell{1, 2}) == made(t, Cell{2, 1}) {
		t.Error("the order counts for nothing")
	}
}

func TestAt(t *testing.T) {
	for _, cells := range some() {
		b := made(t, cells...)
		for i, want := range cells {
			if got, ok := b.At(i); !ok || got != want {
				t.Errorf("%d of %d: %v, %v", i, len(cells), got, ok)
			}
		}
		for _, i := range append(places(), len(cells), len(cells)+1) {
			if got, ok := b.At(i); ok || got != (Cell{}) {
				t.Errorf("%d of %d: %v, %v", i, len(cells), got, ok)
			}
		}
	}
}

// P6.1: Put

func TestPut(t *testing.T) {
	for _, cells := range some() {
		b := made(t, cells...)
		for i := range cells {
			for _, c := range []Cell{{}, {-5, 0}, {0, 9}, {math.MinInt32, math.MaxUint32}, {math.MaxInt32, 1 << 31}, cells[i]} {
				got, e := b.Put(i, c)
				if e != api.OK {
					t.Errorf("%d of %d: %v", i, len(cells), e)
				}
				mustHave(t, i, got, with(cells, i, c))
				if back, e := got.Put(i, cells[i]); e != api.OK || back != b {
					t.Errorf("%d of %d, put back: %v", i, len(cells), e)
				}
			}
		}
		mustHave(t, "that one puts into", b, cells)
	}
}

func TestPutWhereThereIsNoCell(t *testing.T) {
	for _, cells := range some() {
		b := made(t, cells...)
		for _, i := range append(places(), len(cells), len(cells)+1) {
			if got, e := b.Put(i, Cell{5, 3}); e != api.ErrIndex || got != b {
				t.Errorf("%d of %d: %v, %v", i, len(cells), e, got)
			}
			if got, e := b.Put(i, Cell{}); e != api.ErrIndex || got != b {
				t.Errorf("%d of %d: %v, %v", i, len(cells), e, got)
			}
		}
	}
}

// P6.1: Show

func TestShow(t *testing.T) {
	for _, c := range []struct {
		seen, to, want mask.Mask
		fresh          bool
	}{
		{0, 0, 0, false},
		{0, 6, 6, true},
		{6, 0, 6, false},
		{6, 6, 6, false},
		{6, 2, 6, false},
		{6, 1, 7, true},
		{6, 3, 7, true},
		{2, 6, 6, true},
		{1, 1 << 31, 1<<31 | 1, true},
		{1 << 31, 1 << 31, 1 << 31, false},
		{0, math.MaxUint32, math.MaxUint32, true},
		{math.MaxUint32, math.MaxUint32, math.MaxUint32, false},
		{math.MaxUint32, 0, math.MaxUint32, false},
		{math.MaxInt32, math.MaxUint32, math.MaxUint32, true},
	} {
		for i := range 3 {
			cells := with([]Cell{{7, 1}, {8, 3}, {9, 0}}, i, Cell{-4, c.seen})
			b := made(t, cells...)
			got, fresh, e := b.Show(i, c.to)
			if fresh != c.fresh || e != api.OK {
				t.Errorf("%x to %x: %v, %v", uint32(c.seen), uint32(c.to), fresh, e)
			}
			mustHave(t, c, got, with(cells, i, Cell{-4, c.want}))
			mustHave(t, "that is shown", b, cells)
			if again, fresh, e := got.Show(i, c.to); again != got || fresh || e != api.OK {
				t.Errorf("%x to %x, again: %v, %v", uint32(c.seen), uint32(c.to), fresh, e)
			}
		}
	}
}

func TestShowIsAJoin(t *testing.T) {
	for _, cells := range some() {
		b := made(t, cells...)
		for i, c := range cells {
			for _, to := range []mask.Mask{0, 1, 2, 3, 1 << 31, 0x0f0f0f0f, math.MaxUint32, c.Seen, ^c.Seen} {
				got, fresh, e := b.Show(i, to)
				if fresh != (to&^c.Seen != 0) || e != api.OK {
					t.Errorf("%v to %x: %v, %v", c, uint32(to), fresh, e)
				}
				mustHave(t, i, got, with(cells, i, Cell{c.Value, c.Seen | to}))
			}
		}
	}
}

func TestShowWhereThereIsNoCell(t *testing.T) {
	for _, cells := range some() {
		b := made(t, cells...)
		for _, i := range append(places(), len(cells), len(cells)+1) {
			for _, to := range []mask.Mask{0, 1, math.MaxUint32} {
				if got, fresh, e := b.Show(i, to); e != api.ErrIndex || fresh || got != b {
					t.Errorf("%d of %d: %v, %v, %v", i, len(cells), e, fresh, got)
				}
			}
		}
	}
}

// P6.1: View, Shown

func TestViewOfTheExample(t *testing.T) {
	v := made(t, Cell{7, mask.Of(0)}).View(1)
	if c, ok := v.At(0); !ok || c.Value != 0 || c.Seen.Text() != "0" {
		t.Errorf("%v, %v", c, ok)
	}
}

func TestView(t *testing.T) {
	for _, cells := range some() {
		b := made(t, cells...)
		for _, o := range observers() {
			want, shown := slices.Clone(cells), []int(nil)
			for i, c := range cells {
				if o >= 0 && o < 32 && uint32(c.Seen)>>uint(o)%2 == 1 {
					shown = append(shown, i)
				} else {
					want[i].Value = 0
				}
			}
			v := b.View(o)
			mustHave(t, o, v, want)
			if got := b.Shown(o); !slices.Equal(got, shown) {
				t.Errorf("%d sees %d, not %d", o, got, shown)
			}
			if got := v.Shown(o); !slices.Equal(got, shown) {
				t.Errorf("%d sees %d of what it sees, not %d", o, got, shown)
			}
			if v.View(o) != v {
				t.Errorf("%d: a view of its own view is another one", o)
			}
			mustHave(t, "that is viewed", b, cells)
		}
	}
}

func TestShown(t *testing.T) {
	b := made(t, Cell{7, 1}, Cell{0, 3}, Cell{9, 0}, Cell{5, 1<<31 | 1}, Cell{0, 0})
	for o, want := range map[int][]int{0: {0, 1, 3}, 1: {1}, 2: nil, 31: {3}, 32: nil, -1: nil} {
		if got := b.Shown(o); !slices.Equal(got, want) {
			t.Errorf("%d sees %d, not %d", o, got, want)
		}
	}
}

// P6.2: Hash, Labels

// TestSumsAsOthersTellThem holds the sums against those of another program.
func TestSumsAsOthersTellThem(t *testing.T) {
	long := make([]Cell, 48)
	for i := range long {
		long[i] = Cell{int32(i*1000003 - 5), mask.Mask(i * 0x01010101)}
	}
	for _, c := range []struct {
		cells        []Cell
		hash, labels uint32
	}{
		{nil, 0, 0},
		{[]Cell{{}}, 0x8c28b28a, 0x48674bc7},
		{[]Cell{{7, 1}}, 0xab341d36, 0x9522e17f},
		{[]Cell{{0, 1}}, 0x516d1832, 0x9522e17f},
		{[]Cell{{1, 7}}, 0xdc147767, 0x5167f30d},
		{[]Cell{{-1, math.MaxUint32}}, 0x48674bc7, 0xffffffff},
		{[]Cell{{math.MinInt32, 1 << 31}}, 0x607c5cae, 0xca9170bf},
		{[]Cell{{0x01020304, 0x05060708}}, 0x2827c871, 0x96ed0966},
		{[]Cell{{7, 1}, {8, 3}, {9, 0}}, 0x4b13e760, 0xc155e604},
		{[]Cell{{9, 0}, {8, 3}, {7, 1}}, 0x03fc6bee, 0x2d61988c},
		{long, 0xd7570748, 0xe4161e94},
		{make([]Cell, 48), 0xbaf62f36, 0x74357830},
	} {
		b := made(t, c.cells...)
		if b.Hash() != c.hash || b.Labels() != c.labels {
			t.Errorf("%v: %08x, %08x, not %08x, %08x", c.cells, b.Hash(), b.Labels(), c.hash, c.labels)
		}
	}
}

func TestSumsAreTheLibrarys(t *testing.T) {
	castagnoli := crc32.MakeTable(crc32.Castagnoli)
	for size := range 49 {
		var whole, labels []byte
		for _, c := range many(size) {
			whole = binary.LittleEndian.AppendUint32(whole, uint32(c.Value))
			whole = binary.LittleEndian.AppendUint32(whole, uint32(c.Seen))
			labels = binary.LittleEndian.AppendUint32(labels, uint32(c.Seen))
		}
		b := made(t, many(size)...)
		if got, want := b.Hash(), crc32.Checksum(whole, castagnoli); got != want {
			t.Errorf("%d cells: Hash %08x, not %08x", size, got, want)
		}
		if got, want := b.Labels(), crc32.Checksum(labels, castagnoli); got != want {
			t.Errorf("%d cells: Labels %08x, not %08x", size, got, want)
		}
	}
}

func TestWhatTheSumsHangOn(t *testing.T) {
	cells := many(48)
	b := made(t, cells...)
	for i, c := range cells {
		value := made(t, with(cells, i, Cell{c.Value ^ 1<<20, c.Seen})...)
		if value.Hash() == b.Hash() || value.Labels() != b.Labels() {
			t.Errorf("another value at %d: %08x, %08x", i, value.Hash(), value.Labels())
		}
		label := made(t, with(cells, i, Cell{c.Value, c.Seen ^ 1<<20})...)
		if label.Hash() == b.Hash() || label.Labels() == b.Labels() {
			t.Errorf("another label at %d: %08x, %08x", i, label.Hash(), label.Labels())
		}
	}
	for _, o := range observers() {
		if b.View(o).Labels() != b.Labels() {
			t.Errorf("%d sees other labels", o)
		}
	}
}

// P6.2: Alike

func TestAlike(t *testing.T) {
	const all = math.MaxUint32
	for _, c := range []struct {
		name string
		a, b []Cell
		o    int
		want bool
	}{
		{"nothing", nil, nil, 0, true},
		{"a cell more", nil, []Cell{{}}, 0, false},
		{"a cell less, that it doesn't see", []Cell{{7, 1}, {9, 0}}, []Cell{{7, 1}}, 0, false},
		{"the same", []Cell{{7, 1}}, []Cell{{7, 1}}, 0, true},
		{"another value that it sees", []Cell{{7, 1}}, []Cell{{8, 1}}, 0, false},
		{"another value that it doesn't see", []Cell{{7, 1}}, []Cell{{8, 1}}, 1, true},
		{"another label of what it sees", []Cell{{7, 1}}, []Cell{{7, 3}}, 0, false},
		{"another label of what it doesn't see", []Cell{{7, 1}}, []Cell{{7, 3}}, 2, false},
		{"another label, and it sees the value in one", []Cell{{0, 1}}, []Cell{{0, 2}}, 0, false},
		{"another value that nobody sees", []Cell{{7, 0}}, []Cell{{8, 0}}, 0, true},
		{"a value that nobody sees, and none", []Cell{{7, 0}}, []Cell{{0, 0}}, 31, true},
		{"another value that all see", []Cell{{7, all}}, []Cell{{8, all}}, 31, false},
		{"another value that all see, to one that no mask has", []Cell{{7, all}}, []Cell{{8, all}}, 32, true},
		{"another value that all see, to one below 0", []Cell{{7, all}}, []Cell{{8, all}}, -1, true},
		{"another label, to one that no mask has", []Cell{{7, all}}, []Cell{{7, 1}}, 32, false},
		{"another last cell", []Cell{{1, 1}, {2, 3}, {3, 2}}, []Cell{{1, 1}, {2, 3}, {4, 2}}, 1, false},
		{"another last cell that it doesn't see", []Cell{{1, 1}, {2, 3}, {3, 2}}, []Cell{{1, 1}, {2, 3}, {4, 2}}, 0, true},
		{"another order", []Cell{{1, 1}, {2, 1}}, []Cell{{2, 1}, {1, 1}}, 0, false},
		{"another order, that it doesn't see", []Cell{{1, 1}, {2, 1}}, []Cell{{2, 1}, {1, 1}}, 1, true},
	} {
		a, b := made(t, c.a...), made(t, c.b...)
		if Alike(a, b, c.o) != c.want || Alike(b, a, c.o) != c.want {
			t.Errorf("%s: %v, and turned about %v, not %v", c.name, Alike(a, b, c.o), Alike(b, a, c.o), c.want)
		}
	}
}

func TestAlikeIsOfTheViews(t *testing.T) {
	cells := many(48)
	a := made(t, cells...)
	for _, o := range observers() {
		if !Alike(a, a, o) || !Alike(a, a.View(o), o) {
			t.Errorf("%d: a board isn't like its view", o)
		}
		for i, c := range cells {
			value := made(t, with(cells, i, Cell{^c.Value, c.Seen})...)
			if got := Alike(a, value, o); got != !slices.Contains(a.Shown(o), i) {
				t.Errorf("%d, another value at %d: %v", o, i, got)
			}
			label := made(t, with(cells, i, Cell{c.Value, ^c.Seen})...)
			if Alike(a, label, o) {
				t.Errorf("%d, another label at %d: alike", o, i)
			}
		}
	}
}

// TestAlikeIsNotOfTheSums holds two boards against one another that differ, and whose sums don't: what the first cell's value does to the sum the second one's takes back.
func TestAlikeIsNotOfTheSums(t *testing.T) {
	back := uint32(0)
	for _, b := range []byte{7, 0, 0, 0, 0, 0, 0, 0} {
		back = wax.Step(back, b)
	}
	a, b := made(t, Cell{0, 3}, Cell{0, 3}), made(t, Cell{7, 3}, Cell{int32(back), 3})
	if a.Hash() != b.Hash() || a.Labels() != b.Labels() {
		t.Fatalf("%08x, %08x", a.Hash(), b.Hash())
	}
	if a == b || Alike(a, b, 0) || !Alike(a, b, 2) {
		t.Error("boards of one sum are taken for the same")
	}
}

// P1, P2, and the rules of memory and values.

func TestBoardsShareNoMemory(t *testing.T) {
	for size := range 49 {
		room := many(60)
		b, _ := New(room[:size]...)
		if !slices.Equal(room, many(60)) {
			t.Fatalf("%d cells: what was handed in is changed", size)
		}
		for i := range room {
			room[i] = Cell{-1, 5}
		}
		mustHave(t, "of what is written over", b, many(60)[:size])
		first := b.Cells()
		all := first[:cap(first)]
		for i := range all {
			all[i] = Cell{-2, 6}
		}
		mustHave(t, "whose cells were handed out", b, many(60)[:size])
		shown := b.Shown(0)
		want := slices.Clone(shown)
		again := b.Shown(0)
		again = again[:cap(again)]
		for i := range again {
			again[i] = -1
		}
		if !slices.Equal(shown, want) || !slices.Equal(b.Shown(0), want) {
			t.Errorf("%d cells: two answers share their memory", size)
		}
	}
}

// TestBoardsAreValues calls all there is, twice: the same comes of it, and the board stays.
func TestBoardsAreValues(t *testing.T) {
	for _, cells := range some() {
		b := made(t, cells...)
		was := b
		for _, o := range append(observers(), places()...) {
			for range 2 {
				b.At(o)
				b.Put(o, Cell{3, 3})
				b.Show(o, 3)
				b.View(o)
				b.Shown(o)
				Alike(b, Board{}, o)
			}
			if b != was || b.View(o) != was.View(o) || b.Hash() != was.Hash() || b.Labels() != was.Labels() {
				t.Errorf("%d cells, %d: the board is another one", len(cells), o)
			}
		}
		c := b
		if c, _ = c.Put(0, Cell{-77, 77}); b != was || len(cells) > 0 && c == b {
			t.Errorf("%d cells: a board isn't a value", len(cells))
		}
	}
}
