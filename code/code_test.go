package code

import (
	"bytes"
	"encoding/binary"
	"math"
	"math/rand"
	"slices"
	"strconv"
	"strings"
	"testing"

	"hoodwink/api"
	"hoodwink/mask"
)

// names are those of the document, each at its operation's number.
func names() []string {
	return []string{"stop", "set", "load", "store", "loadat", "storeat", "add", "sub", "mul", "div", "mod", "and", "or", "xor", "shl", "shr", "less", "equal", "select", "branch", "jump", "move", "reveal", "roll", "shuffle", "clock"}
}

// row is what the document's table says of an operation: the letters of what it uses (S is a C that is no register), and what N is.
type row struct {
	uses   string
	number string
}

// table is the document's.
func table() map[byte]row {
	rows := map[byte]row{
		0:  {"", ""},
		1:  {"AN", "any"},
		2:  {"AN", "cell"},
		3:  {"AN", "cell"},
		4:  {"ABN", "cell"},
		5:  {"ABN", "cell"},
		18: {"ABC", ""},
		19: {"AN", "place"},
		20: {"N", "place"},
		21: {"AN", "player"},
		22: {"BNM", "cell"},
		23: {"AN", "some"},
		24: {"NS", "cell"},
		25: {"A", ""},
	}
	for op := byte(6); op <= 17; op++ {
		rows[op] = row{"ABC", ""}
	}
	return rows
}

// may is what the document says of an instruction among so many.
func may(c Code, many, cells, players int) bool {
	r, there := table()[c.Op]
	if !there {
		return false
	}
	for letter, b := range map[string]byte{"A": c.A, "B": c.B, "C": c.C} {
		if strings.Contains(r.uses, letter) && b > 7 {
			return false
		}
		if !strings.Contains(r.uses, letter) && b != 0 && !(letter == "C" && strings.Contains(r.uses, "S")) {
			return false
		}
	}
	if !strings.Contains(r.uses, "M") && c.Mask != 0 || !strings.Contains(r.uses, "N") && c.N != 0 {
		return false
	}
	n := int64(c.N)
	switch r.number {
	case "cell":
		if n < 0 || n >= int64(cells) {
			return false
		}
	case "place":
		if n < 0 || n > int64(many) {
			return false
		}
	case "player":
		if n < 0 || n >= int64(players) {
			return false
		}
	case "some":
		if n < 1 {
			return false
		}
	}
	if strings.Contains(r.uses, "S") {
		return c.C >= 1 && c.C <= 48 && n+int64(c.C)-1 < int64(cells)
	}
	return true
}

// edges are bytes about those that the document names.
func edges() []byte {
	return []byte{0, 1, 6, 7, 8, 9, 15, 16, 47, 48, 49, 50, 127, 128, 135, 254, 255}
}

// numbers are those about what an N may count.
func numbers() []int32 {
	l := []int32{math.MinInt32, math.MinInt32 + 1, -65536, -256, -48, -2, -1, 94, 95, 96, 97, 98, 127, 128, 255, 256, 1 << 16, 1 << 30, math.MaxInt32 - 48, math.MaxInt32 - 1, math.MaxInt32}
	for n := int32(0); n < 52; n++ {
		l = append(l, n)
	}
	return l
}

// masks are some.
func masks() []mask.Mask {
	return []mask.Mask{0, 1, 2, 5, 1 << 16, 1 << 31, 1<<31 | 1, math.MaxInt32, math.MaxUint32, 0x55555555}
}

// counts are numbers of cells and of players, those that no game has too.
func counts() []int {
	return []int{math.MinInt, math.MinInt + 1, math.MinInt32, -1, 0, 1, 2, 3, 5, 6, 7, 32, 47, 48, 49, 96, 255, 256, math.MaxInt32, math.MaxInt - 1, math.MaxInt}
}

// sorted answers an instruction of that operation that may be, wherever there is a cell and a player.
func sorted(op byte) Code {
	c := Code{Op: op}
	if op == Shuffle {
		c.C = 1
	}
	if op == Roll {
		c.N = 1
	}
	return c
}

// mixed answers so many instructions of all sorts, wrong ones too.
func mixed(dice *rand.Rand, size int) []Code {
	l := make([]Code, size)
	for i := range l {
		l[i] = Code{byte(dice.Intn(30)), byte(dice.Uint32()), byte(dice.Uint32()), byte(dice.Uint32()), int32(dice.Uint32()), mask.Mask(dice.Uint32())}
	}
	return l
}

// good answers so many instructions that may be where there are 48 cells and 6 players.
func good(dice *rand.Rand, size int) []Code {
	l := make([]Code, size)
	for i := range l {
		for l[i] = (Code{Op: 26}); !may(l[i], size, 48, 6); {
			l[i] = Code{byte(dice.Intn(26)), byte(dice.Intn(8)) * byte(dice.Intn(2)), byte(dice.Intn(8)) * byte(dice.Intn(2)), byte(dice.Intn(8)) * byte(dice.Intn(2)), int32(dice.Intn(50)) * int32(dice.Intn(2)), mask.Mask(dice.Uint32()) * mask.Mask(dice.Intn(2))}
		}
	}
	return l
}

// held asks Check and Right of one list, and holds them to what they should answer.
func held(t *testing.T, l []Code, cells, players, at int, ok bool) {
	t.Helper()
	i, right := Check(l, cells, players)
	if i != at || right != ok {
		t.Errorf("%d instructions, the first ones %v, %d cells, %d players: %d, %v, not %d, %v", len(l), l[:min(len(l), 3)], cells, players, i, right, at, ok)
	}
	if Right(l, cells, players) != ok {
		t.Errorf("%d instructions, the first ones %v, %d cells, %d players: Right isn't %v", len(l), l[:min(len(l), 3)], cells, players, ok)
	}
}

// one asks of a list of one instruction.
func one(t *testing.T, c Code, cells, players int) {
	t.Helper()
	held(t, []Code{c}, cells, players, 0, may(c, 1, cells, players))
}

// The operations

func TestOperations(t *testing.T) {
	all := []int{Stop, Set, Load, Store, LoadAt, StoreAt, Add, Sub, Mul, Div, Mod, And, Or, Xor, Shl, Shr, Less, Equal, Select, Branch, Jump, Move, Reveal, Roll, Shuffle, Clock}
	if len(all) != 26 {
		t.Error(len(all))
	}
	for i, op := range all {
		if i != op {
			t.Errorf("%s is %d, not %d", names()[i], op, i)
		}
	}
}

// P8.1

func TestEachRegister(t *testing.T) {
	for op := range 256 {
		for _, b := range edges() {
			a := sorted(byte(op))
			a.A = b
			one(t, a, 48, 6)
			a = sorted(byte(op))
			a.B = b
			one(t, a, 48, 6)
			a = sorted(byte(op))
			a.C = b
			one(t, a, 48, 6)
			a.A, a.B = b, b
			one(t, a, 48, 6)
		}
	}
}

func TestEachNumber(t *testing.T) {
	for op := range 30 {
		for _, n := range numbers() {
			c := sorted(byte(op))
			c.N = n
			for _, many := range counts() {
				one(t, c, many, 6)
				one(t, c, 48, many)
			}
		}
	}
}

func TestEachMask(t *testing.T) {
	for op := range 256 {
		for _, m := range masks() {
			c := sorted(byte(op))
			c.Mask = m
			one(t, c, 48, 6)
		}
	}
}

// TestShuffledCells asks of each row of cells whether it is there.
func TestShuffledCells(t *testing.T) {
	for _, cells := range counts() {
		for _, n := range numbers() {
			for _, many := range edges() {
				one(t, Code{Op: Shuffle, N: n, C: many}, cells, 1)
			}
		}
	}
	for _, c := range []struct {
		n     int32
		many  byte
		cells int
		want  bool
	}{
		{0, 48, 48, true},
		{0, 48, 47, false},
		{47, 1, 48, true},
		{47, 2, 48, false},
		{48, 1, 48, false},
		{1, 48, 48, false},
		{1, 48, 49, true},
		{0, 49, 60, false},
		{0, 0, 48, false},
		{-1, 1, 48, false},
		{0, 8, 8, true},
		{math.MaxInt32, 48, math.MaxInt, true},
		{1, 1, math.MinInt, false},
	} {
		held(t, []Code{{Op: Shuffle, N: c.n, C: c.many}}, c.cells, 0, 0, c.want)
	}
}

// TestPlaces asks where one may go on: behind the last instruction, but no further.
func TestPlaces(t *testing.T) {
	for _, size := range []int{1, 2, 3, 50, 95, 96} {
		for _, op := range []byte{Branch, Jump} {
			for _, n := range numbers() {
				for _, at := range []int{0, size / 2, size - 1} {
					l := make([]Code, size)
					l[at] = Code{Op: op, N: n}
					if n >= 0 && int(n) <= size {
						held(t, l, 0, 0, 0, true)
					} else {
						held(t, l, 0, 0, at, false)
					}
				}
			}
		}
	}
}

// TestByHand holds the table to single lines that were read off the document.
func TestByHand(t *testing.T) {
	for _, c := range []struct {
		code Code
		want bool
	}{
		{Code{}, true},
		{Code{Op: Stop, A: 1}, false},
		{Code{Op: Set, A: 7, N: math.MinInt32}, true},
		{Code{Op: Set, A: 8}, false},
		{Code{Op: Clock, A: 7}, true},
		{Code{Op: Clock, N: 1}, false},
		{Code{Op: Load, A: 7, N: 3}, true},
		{Code{Op: Load, N: 4}, false},
		{Code{Op: Store, A: 7, N: 3}, true},
		{Code{Op: Store, B: 1}, false},
		{Code{Op: LoadAt, A: 7, B: 7, N: 3}, true},
		{Code{Op: LoadAt, C: 1}, false},
		{Code{Op: StoreAt, A: 7, B: 7, N: 3}, true},
		{Code{Op: StoreAt, N: -1}, false},
		{Code{Op: Equal, A: 7, B: 7, C: 7}, true},
		{Code{Op: Add, C: 8}, false},
		{Code{Op: Add, N: 1}, false},
		{Code{Op: Select, A: 7, B: 7, C: 7}, true},
		{Code{Op: Branch, A: 7, N: 1}, true},
		{Code{Op: Branch, B: 1}, false},
		{Code{Op: Jump, N: 1}, true},
		{Code{Op: Jump, A: 1}, false},
		{Code{Op: Jump, N: 2}, false},
		{Code{Op: Move, A: 7, N: 1}, true},
		{Code{Op: Move, N: 2}, false},
		{Code{Op: Reveal, B: 7, N: 3, Mask: math.MaxUint32}, true},
		{Code{Op: Reveal, A: 1}, false},
		{Code{Op: Roll, A: 7, N: math.MaxInt32}, true},
		{Code{Op: Roll}, false},
		{Code{Op: Roll, N: -1}, false},
		{Code{Op: Shuffle, C: 4}, true},
		{Code{Op: Shuffle, A: 1, C: 4}, false},
		{Code{Op: Shuffle, C: 5}, false},
		{Code{Op: 26}, false},
		{Code{Op: 255}, false},
	} {
		held(t, []Code{c.code}, 4, 2, 0, c.want)
	}
}

func TestTheFirstThatMayNotBe(t *testing.T) {
	dice := rand.New(rand.NewSource(1))
	for _, size := range []int{1, 2, 3, 20, 95, 96} {
		l := good(dice, size)
		held(t, l, 48, 6, 0, true)
		for at := range l {
			wrong := slices.Clone(l)
			wrong[at] = Code{Op: 26}
			held(t, wrong, 48, 6, at, false)
			last := &wrong[size-1]
			if at < size-1 {
				*last = Code{Op: Set, A: 8}
			}
			held(t, wrong, 48, 6, at, false)
		}
	}
}

func TestHowManyThereMayBe(t *testing.T) {
	for _, l := range [][]Code{nil, {}} {
		for _, many := range counts() {
			held(t, l, many, many, 0, true)
		}
	}
	held(t, make([]Code, 96), 0, 0, 0, true)
	for _, size := range []int{97, 98, 255, 256, 352, 1000} {
		held(t, make([]Code, size), 48, 6, 96, false)
		held(t, slices.Repeat([]Code{{Op: 77}}, size), 48, 6, 96, false)
	}
}

// TestMixed holds lists of all sorts to the table.
func TestMixed(t *testing.T) {
	dice := rand.New(rand.NewSource(2))
	for range 3000 {
		l := good(dice, 1+dice.Intn(20))
		if dice.Intn(2) == 0 {
			l[dice.Intn(len(l))] = mixed(dice, 1)[0]
		}
		cells, players := 40+dice.Intn(9), 4+dice.Intn(3)
		at := slices.IndexFunc(l, func(c Code) bool { return !may(c, len(l), cells, players) })
		held(t, l, cells, players, max(at, 0), at < 0)
	}
}

// P8.2: Bytes, Parse

// written is what the document says of the bytes of a list.
func written(l []Code) []byte {
	p := []byte{byte(len(l))}
	for _, c := range l {
		p = append(p, c.Op, c.A, c.B, c.C)
		p = binary.LittleEndian.AppendUint32(p, uint32(c.N))
		p = binary.LittleEndian.AppendUint32(p, uint32(c.Mask))
	}
	return p
}

func TestBytesAndBack(t *testing.T) {
	dice := rand.New(rand.NewSource(3))
	for size := range 97 {
		for _, l := range [][]Code{mixed(dice, size), good(dice, size), make([]Code, size)} {
			p := Bytes(l)
			if !bytes.Equal(p, written(l)) {
				t.Fatalf("%v: %x", l, p)
			}
			back, e := Parse(p)
			if e != api.OK || !slices.Equal(back, l) {
				t.Fatalf("%v: %v, %v", l, e, back)
			}
		}
	}
}

func TestBytesByHand(t *testing.T) {
	p := Bytes([]Code{{Op: Reveal, A: 1, B: 2, C: 3, N: -2, Mask: 0x01020304}})
	if want := []byte{1, 22, 1, 2, 3, 0xfe, 0xff, 0xff, 0xff, 4, 3, 2, 1}; !bytes.Equal(p, want) {
		t.Errorf("%x, not %x", p, want)
	}
	for _, l := range [][]Code{nil, {}} {
		if p := Bytes(l); !bytes.Equal(p, []byte{0}) {
			t.Errorf("of none: %x", p)
		}
	}
}

func TestBytesOfTooMany(t *testing.T) {
	for _, size := range []int{97, 98, 127, 128, 256, 257, 352} {
		if p := Bytes(make([]Code, size)); p != nil {
			t.Errorf("%d: %x", size, p)
		}
	}
}

func TestParseOfWhatBytesMakesNot(t *testing.T) {
	body := written(make([]Code, 2))[1:]
	wrong := map[string][]byte{
		"nothing":             nil,
		"none, and a byte":    {0, 0},
		"none, in two bytes":  {0x80, 0},
		"two, in two bytes":   append([]byte{0x82, 0}, body...),
		"two, in three bytes": append([]byte{0x82, 0x80, 0}, body...),
		"two, and a byte":     append(append([]byte{2}, body...), 0),
		"one, and another":    append([]byte{1}, body...),
		"three that are two":  append([]byte{3}, body...),
		"97":                  append([]byte{97}, make([]byte, 97*12)...),
		"127":                 append([]byte{127}, make([]byte, 127*12)...),
		"128":                 append([]byte{0x80, 1}, make([]byte, 128*12)...),
		"256":                 append([]byte{0x80, 2}, make([]byte, 256*12)...),
		"2^32 + 2":            append([]byte{0x82, 0x80, 0x80, 0x80, 0x10}, body...),
		"2^64 - 1":            {0xff, 0xff, 0xff, 0xff, 0xff, 0xff, 0xff, 0xff, 0xff, 1},
		"more than 64 bits":   bytes.Repeat([]byte{0xff}, 30),
		"only a first byte":   {0x80},
	}
	for name, p := range wrong {
		if l, e := Parse(p); e != api.ErrForm || l != nil {
			t.Errorf("%s: %v, %v", name, e, l)
		}
	}
}

func TestParseOfTooLittleAndTooMuch(t *testing.T) {
	dice := rand.New(rand.NewSource(4))
	for _, size := range []int{0, 1, 2, 17, 96} {
		p := written(mixed(dice, size))
		for i := range p {
			if l, e := Parse(p[:i]); e != api.ErrForm || l != nil {
				t.Errorf("%d of %d bytes: %v, %v", i, len(p), e, l)
			}
		}
		for _, more := range [][]byte{{0}, {1}, make([]byte, 12)} {
			if l, e := Parse(append(slices.Clone(p), more...)); e != api.ErrForm || l != nil {
				t.Errorf("%d bytes more: %v, %v", len(more), e, l)
			}
		}
	}
}

// TestParseIsTheOnlyWayBack turns single bytes: what is taken is written as it was.
func TestParseIsTheOnlyWayBack(t *testing.T) {
	dice := rand.New(rand.NewSource(5))
	for range 5000 {
		p := written(mixed(dice, dice.Intn(5)))
		p[dice.Intn(len(p))] = byte(dice.Uint32())
		p[0] ^= byte(dice.Intn(2)) << dice.Intn(8) * byte(dice.Intn(2))
		l, e := Parse(p)
		fits := p[0] <= 96 && len(p) == 1+12*int(p[0])
		if fits != (e == api.OK) || fits && !bytes.Equal(written(l), p) || !fits && (e != api.ErrForm || l != nil) {
			t.Fatalf("%x: %v, %v", p, e, l)
		}
	}
}

// P8.2: Word, Text, Read

func TestWord(t *testing.T) {
	for op := range 256 {
		want := ""
		if op < len(names()) {
			want = names()[op]
		}
		if got := Word(byte(op)); got != want {
			t.Errorf("%d: %q, not %q", op, got, want)
		}
	}
}

func TestTextByHand(t *testing.T) {
	for want, c := range map[string]Code{
		"set 1 0 0 -5 -":                 {Op: Set, A: 1, N: -5},
		"stop 0 0 0 0 -":                 {},
		"reveal 0 2 0 3 0,2":             {Op: Reveal, B: 2, N: 3, Mask: 5},
		"loadat 7 6 0 47 -":              {Op: LoadAt, A: 7, B: 6, N: 47},
		"storeat 1 10 100 2147483647 31": {Op: StoreAt, A: 1, B: 10, C: 100, N: math.MaxInt32, Mask: 1 << 31},
		"clock 255 255 255 -2147483648 0,1,2,3,4,5,6,7,8,9,10,11,12,13,14,15,16,17,18,19,20,21,22,23,24,25,26,27,28,29,30,31": {Op: Clock, A: 255, B: 255, C: 255, N: math.MinInt32, Mask: math.MaxUint32},
	} {
		if got := Text(c); got != want {
			t.Errorf("%v: %q, not %q", c, got, want)
		}
		if back, e := Read(want); e != api.OK || back != c {
			t.Errorf("%q: %v, %v", want, e, back)
		}
	}
}

// line is what the document says of the text of an instruction.
func line(c Code) string {
	var seen []string
	for o := range 32 {
		if uint32(c.Mask)>>o%2 == 1 {
			seen = append(seen, strconv.Itoa(o))
		}
	}
	if seen == nil {
		seen = []string{"-"}
	}
	numbers := []int64{int64(c.A), int64(c.B), int64(c.C), int64(c.N)}
	text := names()[c.Op]
	for _, n := range numbers {
		text += " " + strconv.FormatInt(n, 10)
	}
	return text + " " + strings.Join(seen, ",")
}

func TestTextAndBack(t *testing.T) {
	dice := rand.New(rand.NewSource(6))
	all := append(mixed(dice, 5000), good(dice, 1000)...)
	for op := range byte(26) {
		for _, b := range edges() {
			for _, n := range numbers() {
				all = append(all, Code{Op: op, A: b, N: n}, Code{Op: op, B: b, N: n}, Code{Op: op, C: b, N: n})
			}
		}
		for _, m := range masks() {
			all = append(all, Code{Op: op, Mask: m})
		}
	}
	for _, c := range all {
		if c.Op >= 26 {
			continue
		}
		text := Text(c)
		if text != line(c) {
			t.Fatalf("%v: %q, not %q", c, text, line(c))
		}
		if back, e := Read(text); e != api.OK || back != c {
			t.Fatalf("%q: %v, %v", text, e, back)
		}
	}
}

func TestTextOfNoOperation(t *testing.T) {
	for op := 26; op < 256; op++ {
		for _, c := range []Code{{Op: byte(op)}, {Op: byte(op), A: 1, N: 4, Mask: 3}} {
			if text := Text(c); text != "" {
				t.Errorf("%v: %q", c, text)
			}
		}
	}
}

func TestReadOfWhatTextMakesNot(t *testing.T) {
	for _, text := range []string{
		"", " ", "-", "     ", "\n", "\x00", "stop", "stop ", "stop 0 0 0 0", "stop 0 0 0 0 ", "stop 0 0 0 -", "stop 0 0 0 0 - ", " stop 0 0 0 0 -",
		"stop 0 0 0 0 -\n", "stop 0 0 0 0 - -", "stop  0 0 0 0 -", "stop 0 0 0  0 -", "stop\t0 0 0 0 -", "stop 0 0 0 0\t-", "stop 0 0 0 0 -\x00",
		" 0 0 0 0 -", "Stop 0 0 0 0 -", "STOP 0 0 0 0 -", "what 0 0 0 0 -", "stops 0 0 0 0 -", "sto 0 0 0 0 -", "loadAt 0 0 0 0 -", "load at 0 0 0 0 -", "0 0 0 0 0 -", "26 0 0 0 0 -", "operations 0 0 0 0 -",
		"set 256 0 0 0 -", "set 0 256 0 0 -", "set 0 0 256 0 -", "set -1 0 0 0 -", "set 0 -1 0 0 -", "set 0 0 -1 0 -", "set 01 0 0 0 -", "set 0 00 0 0 -", "set 0 0 +1 0 -", "set x 0 0 0 -", "set 0x1 0 0 0 -", "set 1_0 0 0 0 -", "set - 0 0 0 -", "set 1.0 0 0 0 -", "set 99999999999999999999999999 0 0 0 -", "set 18446744073709551616 0 0 0 -", "set 4294967296 0 0 0 -",
		"set 0 0 0 +1 -", "set 0 0 0 -0 -", "set 0 0 0 03 -", "set 0 0 0 -03 -", "set 0 0 0 2147483648 -", "set 0 0 0 -2147483649 -", "set 0 0 0 4294967296 -", "set 0 0 0 4294967295 -", "set 0 0 0 18446744073709551616 -", "set 0 0 0 - -", "set 0 0 0 -- -", "set 0 0 0 1e3 -", "set 0 0 0 \u0663 -",
		"set 0 0 0 0 2,0", "set 0 0 0 0 0,0", "set 0 0 0 0 0,2,", "set 0 0 0 0 ,0,2", "set 0 0 0 0 0,,2", "set 0 0 0 0 0, 2", "set 0 0 0 0 0;2", "set 0 0 0 0 32", "set 0 0 0 0 31,32", "set 0 0 0 0 -1", "set 0 0 0 0 -0", "set 0 0 0 0 00", "set 0 0 0 0 +1", "set 0 0 0 0 --", "set 0 0 0 0 -,0", "set 0 0 0 0 0,-", "set 0 0 0 0 ,", "set 0 0 0 0 x", "set 0 0 0 0 0x1", "set 0 0 0 0 4294967296", "set 0 0 0 0 18446744073709551616", "set 0 0 0 0 3,", "set 0 0 0 0 -,-",
		"set 0 0 0 0 0,1,2,3,4,5,6,7,8,9,10,11,12,13,14,15,16,17,18,19,20,21,22,23,24,25,26,27,28,29,30,31,32",
		"set 0 0 0 0 0,1,2,3,4,5,6,7,8,9,10,11,12,13,14,15,16,17,18,19,20,21,22,23,24,25,26,27,28,29,30,31,",
		"set 0 0 0 0 0,1,2,3,4,5,6,7,8,9,10,11,12,13,14,15,16,17,18,19,20,21,22,23,24,25,26,27,28,29,30,31,31",
		"stop 0 0 0 0 -stop 0 0 0 0 -", "stop 0 0 0 0 - stop 0 0 0 0 -", "\xff\xfe", "stop 0 0 0 0 \xff", "st\u00f6p 0 0 0 0 -",
		strings.Repeat(" ", 30000), strings.Repeat("0 ", 30000), strings.Repeat("stop ", 5000), "set " + strings.Repeat("0", 30000) + " 0 0 0 -", "set 0 0 0 " + strings.Repeat("9", 30000) + " -", "set 0 0 0 0 " + strings.Repeat("0,", 30000), "set 0 0 0 0 " + strings.Repeat(",", 30000),
	} {
		if c, e := Read(text); e != api.ErrText || c != (Code{}) {
			t.Errorf("%.80q: %v, %v", text, e, c)
		}
	}
}

// TestReadIsTheOnlyWayBack spoils lines: what is taken is written as it was.
func TestReadIsTheOnlyWayBack(t *testing.T) {
	dice := rand.New(rand.NewSource(7))
	taken := 0
	for range 20000 {
		text := []byte(line(good(dice, 1)[0]))
		at := dice.Intn(len(text))
		switch dice.Intn(3) {
		case 0:
			text[at] = "0123456789 -,+ax"[dice.Intn(16)]
		case 1:
			text = slices.Insert(text, at, "0123456789 -,+ax"[dice.Intn(16)])
		case 2:
			text = slices.Delete(text, at, at+1)
		}
		c, e := Read(string(text))
		if e == api.OK {
			taken++
		}
		if e == api.OK && line(c) != string(text) || e != api.OK && (e != api.ErrText || c != (Code{})) {
			t.Fatalf("%q: %v, %v", text, e, c)
		}
	}
	if taken == 0 {
		t.Error("none was taken")
	}
}

// P8.2: Reals

func TestReals(t *testing.T) {
	dice := rand.New(rand.NewSource(8))
	for _, size := range []int{0, 1, 2, 5, 96, 97, 500} {
		for range 20 {
			l := mixed(dice, size)
			want := 0
			for _, c := range l {
				if c.Op == 22 {
					want++
				}
			}
			if got := Reals(l); got != want {
				t.Errorf("%v: %d, not %d", l, got, want)
			}
		}
	}
	if got := Reals(slices.Repeat([]Code{{Op: Reveal}}, 1000)); got != 1000 {
		t.Errorf("of 1000: %d", got)
	}
	for op := range byte(255) {
		if got := Reals([]Code{{Op: op, A: 22, B: 22, C: 22, N: 22, Mask: 22}}); (got == 1) != (op == 22) || got > 1 {
			t.Errorf("%d: %d", op, got)
		}
	}
	if Reals(nil) != 0 {
		t.Error("of none")
	}
}

// P1, P2, and the rules of memory

func TestCallsAnswerTheSameAgain(t *testing.T) {
	dice := rand.New(rand.NewSource(9))
	for _, size := range []int{0, 1, 7, 96, 97, 300} {
		l := mixed(dice, size)
		was := slices.Clone(l)
		for _, many := range counts() {
			i, ok := Check(l, many, many)
			j, again := Check(l, many, many)
			if i != j || ok != again || Right(l, many, many) != ok {
				t.Errorf("%d, %d: Check answers another thing the second time", size, many)
			}
		}
		if !bytes.Equal(Bytes(l), Bytes(l)) || Reals(l) != Reals(l) {
			t.Errorf("%d: another answer the second time", size)
		}
		if !slices.Equal(l, was) {
			t.Errorf("%d: what was handed in is changed", size)
		}
	}
}

func TestWhatIsHandedInStays(t *testing.T) {
	dice := rand.New(rand.NewSource(10))
	l := mixed(dice, 20)
	was := slices.Clone(l)
	Check(l[:10], 48, 6)
	Right(l[:10], 48, 6)
	Bytes(l[:10])
	Reals(l[:10])
	if !slices.Equal(l, was) {
		t.Error("the instructions, or their spare room, are changed")
	}
	p := append(written(l), 1, 2, 3)
	before := slices.Clone(p)
	Parse(p[:len(p)-3])
	if !bytes.Equal(p, before) {
		t.Error("the bytes, or their spare room, are changed")
	}
}

func TestAnswersShareNoMemory(t *testing.T) {
	l := good(rand.New(rand.NewSource(11)), 12)
	want := written(l)
	one, two := Bytes(l), Bytes(l)
	for i := range one[:cap(one)] {
		one[:cap(one)][i] = 0xee
	}
	if !bytes.Equal(two, want) || !bytes.Equal(Bytes(l), want) {
		t.Error("two answers of Bytes share their memory")
	}
	p := slices.Clone(want)
	a, _ := Parse(p)
	clear(p)
	if !slices.Equal(a, l) {
		t.Error("what Parse answers hangs on what is written over")
	}
	b, _ := Parse(want)
	for i := range b[:cap(b)] {
		b[:cap(b)][i] = Code{Op: 99}
	}
	if c, _ := Parse(want); !slices.Equal(a, l) || !slices.Equal(c, l) || !bytes.Equal(want, written(l)) {
		t.Error("two answers of Parse share their memory")
	}
}
