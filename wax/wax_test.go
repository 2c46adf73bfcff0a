package wax

import (
	"bytes"
	"hash/crc32"
	"math"
	"testing"

	"hoodwink/api"
)

// text answers so many bytes, no two neighbours alike.
func text(size int) []byte {
	p := make([]byte, size)
	for i := range p {
		p[i] = byte(i*i*31 + i*7 + 3)
	}
	return p
}

// turn answers p with the bits of mask turned, the lowest one at the bit at; false: one of them is beyond p's end.
func turn(p []byte, at int, mask uint32) ([]byte, bool) {
	q := bytes.Clone(p)
	for i := range 32 {
		if mask>>i&1 == 0 {
			continue
		}
		bit := at + i
		if bit >= 8*len(q) {
			return nil, false
		}
		q[bit/8] ^= 1 << (bit % 8)
	}
	return q, true
}

// P2.1

func TestSumOfTheExample(t *testing.T) {
	if got := Make().Sum([]byte("123456789")); got != 0xe3069283 {
		t.Errorf("%08x", got)
	}
}

// TestSumIsTheLibrarys holds the sums against those of another program.
func TestSumIsTheLibrarys(t *testing.T) {
	table := Make()
	for size := range 300 {
		p := text(size)
		want := crc32.Checksum(p, crc32.MakeTable(crc32.Castagnoli))
		if got := table.Sum(p); got != want {
			t.Errorf("%d bytes: %08x, not %08x", size, got, want)
		}
	}
	for _, c := range []struct {
		b    byte
		want uint32
	}{{0, 0x8a9136aa}, {255, 0x62a8ab43}} {
		if got := table.Sum(bytes.Repeat([]byte{c.b}, 32)); got != c.want {
			t.Errorf("32 bytes %02x: %08x, not %08x", c.b, got, c.want)
		}
	}
}

func TestSumOfNothing(t *testing.T) {
	table := Make()
	for _, parts := range [][][]byte{nil, {nil}, {{}}, {nil, {}, nil}} {
		if got := table.Sum(parts...); got != 0 {
			t.Errorf("%v: %08x", parts, got)
		}
	}
}

func TestSumOfParts(t *testing.T) {
	table, p := Make(), text(40)
	want := table.Sum(p)
	for i := range len(p) + 1 {
		for j := i; j <= len(p); j++ {
			if got := table.Sum(p[:i], nil, p[i:j], p[j:]); got != want {
				t.Errorf("parted at %d and %d: %08x, not %08x", i, j, got, want)
			}
		}
	}
	if table.Sum([]byte("ab"), []byte("c")) == table.Sum([]byte("c"), []byte("ab")) {
		t.Error("the parts' order counts for nothing")
	}
}

func TestStepByStep(t *testing.T) {
	p := text(100)
	table := Make()
	sum := uint32(math.MaxUint32)
	for i, b := range p {
		sum = Step(sum, b)
		if got := table.Sum(p[:i+1]); got != ^sum {
			t.Errorf("behind %d bytes: %08x, not %08x", i+1, ^sum, got)
		}
	}
}

func TestStep(t *testing.T) {
	for _, c := range []struct {
		sum  uint32
		b    byte
		want uint32
	}{
		{0, 0, 0},
		{0, 0x80, 0x82f63b78},
		{0x80, 0, 0x82f63b78},
		{0x80, 0x80, 0},
		{0x12345600, 0, 0x00123456},
		{math.MaxUint32, 0xff, 0x00ffffff},
		{math.MaxUint32, 0, ^uint32(0x527d5351)},
	} {
		if got := Step(c.sum, c.b); got != c.want {
			t.Errorf("Step(%08x, %02x): %08x, not %08x", c.sum, c.b, got, c.want)
		}
	}
}

func TestMake(t *testing.T) {
	table := Make()
	if table != Table(*crc32.MakeTable(crc32.Castagnoli)) {
		t.Error("another table")
	}
	changed := table
	changed[1]++
	if table != Make() || Make() != Make() {
		t.Error("a table isn't a value")
	}
}

func TestSeal(t *testing.T) {
	table := Make()
	for _, c := range []struct{ p, want string }{
		{"", "\x00\x00\x00\x00"},
		{"123456789", "123456789\x83\x92\x06\xe3"},
	} {
		if got := table.Seal([]byte(c.p)); string(got) != c.want {
			t.Errorf("%q: %x", c.p, got)
		}
	}
	if got := table.Seal(nil); string(got) != "\x00\x00\x00\x00" {
		t.Errorf("nil: %x", got)
	}
}

func TestOpenWhatIsSealed(t *testing.T) {
	table := Make()
	for size := range 300 {
		p := text(size)
		if got, e := table.Open(table.Seal(p)); e != api.OK || !bytes.Equal(got, p) {
			t.Errorf("%d bytes: %v, %x", size, e, got)
		}
	}
	twice := table.Seal(table.Seal([]byte("a")))
	once, e := table.Open(twice)
	got, f := table.Open(once)
	if e != api.OK || f != api.OK || string(got) != "a" {
		t.Errorf("sealed twice: %v, %v, %x", e, f, got)
	}
}

func TestOpenOfFewerThanFourBytes(t *testing.T) {
	table := Make()
	for _, p := range [][]byte{nil, {}, {0}, {0, 0}, {0, 0, 0}, {1, 2, 3}} {
		if got, e := table.Open(p); e != api.ErrForm || len(got) != 0 {
			t.Errorf("%x: %v, %x", p, e, got)
		}
	}
}

func TestOpenOfJustFourBytes(t *testing.T) {
	table := Make()
	if got, e := table.Open(make([]byte, 4)); e != api.OK || len(got) != 0 {
		t.Errorf("nothing, and its sum: %v, %x", e, got)
	}
	for i := range 4 {
		p := make([]byte, 4)
		p[i] = 1
		if got, e := table.Open(p); e != api.ErrSum || len(got) != 0 {
			t.Errorf("%x: %v, %x", p, e, got)
		}
	}
}

func TestOpenOfAnotherSum(t *testing.T) {
	table := Make()
	for name, p := range map[string]string{
		"the highest first": "123456789\xe3\x06\x92\x83",
		"not turned about":  "123456789\x7c\x6d\xf9\x1c",
		"one byte less":     "12345678\x83\x92\x06\xe3",
		"one byte more":     "123456789\x83\x92\x06\xe3\x00",
		"another last byte": "123456789\x83\x92\x06\xe2",
		"no sum":            "123456789",
	} {
		if got, e := table.Open([]byte(p)); e != api.ErrSum || len(got) != 0 {
			t.Errorf("%s: %v, %x", name, e, got)
		}
	}
}

func TestWaxSharesNoMemory(t *testing.T) {
	table := Make()
	room := []byte("abcdefgh")
	sealed := table.Seal(room[:3])
	if string(room) != "abcdefgh" {
		t.Fatalf("Seal writes into what it was given: %q", room)
	}
	for _, p := range [][]byte{nil, []byte("abc")} {
		sealed := table.Seal(p)
		opened, _ := table.Open(sealed)
		opened = append(opened, "xyz"...)
		opened[0] = '!'
		again, e := table.Open(sealed)
		if e != api.OK || !bytes.Equal(again, p) {
			t.Errorf("%q: Open answers what it was given: %v, %q", p, e, again)
		}
	}
	room[0] = '!'
	opened, e := table.Open(sealed)
	for i := range sealed {
		sealed[i] = '?'
	}
	if e != api.OK || string(opened) != "abc" {
		t.Errorf("what was handed in is kept: %v, %q", e, opened)
	}
}

// P2.2

func TestTurnedBitsShow(t *testing.T) {
	table := Make()
	masks := []uint32{1, 3, 5, 1 << 31, 1<<31 | 1, math.MaxUint32, 0x82f63b78, 0x05ec76f1, 0xdeadbeef, 0x80000001}
	seed := uint32(1)
	for range 60 {
		seed = seed*1664525 + 1013904223
		masks = append(masks, seed|seed<<13)
	}
	for _, size := range []int{0, 1, 3, 4, 9, 64, 101} {
		sealed := table.Seal(text(size))
		for at := range 8 * len(sealed) {
			for _, mask := range masks {
				spoilt, inside := turn(sealed, at, mask)
				if !inside {
					continue
				}
				if got, e := table.Open(spoilt); e != api.ErrSum || len(got) != 0 {
					t.Fatalf("%d bytes, %08x from bit %d on: %v, %x", size, mask, at, e, got)
				}
			}
		}
	}
}

// TestAnyTurnedBitsShow goes through all masks at once. A sum is linear: what some turned bits make of the difference between a
// sum and the tail is what each of them makes, xored. So none goes unseen if no xor of some of 32 neighbours' differences is 0.
func TestAnyTurnedBitsShow(t *testing.T) {
	table := Make()
	for _, size := range []int{0, 1, 5, 64, 1000} {
		sealed := table.Seal(text(size))
		differences := make([]uint32, 8*len(sealed))
		for bit := range differences {
			p, _ := turn(sealed, bit, 1)
			rest, tail := p[:size], p[size:]
			differences[bit] = table.Sum(rest) ^ (uint32(tail[0]) | uint32(tail[1])<<8 | uint32(tail[2])<<16 | uint32(tail[3])<<24)
		}
		for at := range len(differences) - 31 {
			if rank(differences[at:at+32]) != 32 {
				t.Errorf("%d bytes, from bit %d on: some turned bits don't show", size, at)
			}
		}
	}
}

// rank answers how many of the words can't be made of others by xor.
func rank(words []uint32) int {
	var byHighest [32]uint32
	n := 0
	for _, w := range words {
		for i := 31; i >= 0 && w != 0; i-- {
			if w>>i&1 == 0 {
				continue
			}
			if byHighest[i] == 0 {
				byHighest[i] = w
				n++
				break
			}
			w ^= byHighest[i]
		}
	}
	return n
}

// P1: of any table and any bytes, no call panics.
func TestAnyTable(t *testing.T) {
	var none Table
	for size := range 20 {
		p := text(size)
		none.Sum(p, nil, p)
		none.Seal(p)
		none.Open(p)
	}
}
