package ink

import (
	"bytes"
	"math"
	"math/bits"
	"testing"

	"hoodwink/api"
)

// edges are numbers around each count of bytes that a Num may take.
func edges() []uint64 {
	all := []uint64{0, 1, 2, 100, 300, math.MaxUint32, math.MaxUint64 - 1, math.MaxUint64}
	for shift := 7; shift < 64; shift += 7 {
		all = append(all, 1<<shift-1, 1<<shift, 1<<shift+1)
	}
	return all
}

// repeat answers a text of so many bytes, no two neighbours alike.
func repeat(size int) []byte {
	b := make([]byte, size)
	for i := range b {
		b[i] = byte(i*7 + 1)
	}
	return b
}

// readings are all the calls that read, each as a number or a length.
func readings() map[string]func(*Eye) uint64 {
	return map[string]func(*Eye) uint64{
		"Byte": func(e *Eye) uint64 { return uint64(e.Byte()) },
		"Half": func(e *Eye) uint64 { return uint64(e.Half()) },
		"Word": func(e *Eye) uint64 { return uint64(e.Word()) },
		"Num":  func(e *Eye) uint64 { return e.Num(math.MaxUint64) },
		"Blob": func(e *Eye) uint64 { return uint64(len(e.Blob(math.MaxInt))) },
	}
}

// mustBeWrong holds an Eye to all that is promised of one that isn't right.
func mustBeWrong(t *testing.T, what any, e *Eye) {
	t.Helper()
	if e.Done() != api.ErrForm || e.Left() != 0 {
		t.Errorf("%v: Done %v, Left %v", what, e.Done(), e.Left())
	}
	for name, read := range readings() {
		if got := read(e); got != 0 {
			t.Errorf("%v: %s of one that isn't right: %v", what, name, got)
		}
	}
	if e.Done() != api.ErrForm || e.Left() != 0 {
		t.Errorf("%v: it is right again", what)
	}
}

// P1.1

func TestPenWrites(t *testing.T) {
	cases := []struct {
		name  string
		write func(p *Pen) *Pen
		want  string
	}{
		{"nothing", func(p *Pen) *Pen { return p }, ""},
		{"Byte 0", func(p *Pen) *Pen { return p.Byte(0) }, "\x00"},
		{"Byte 255", func(p *Pen) *Pen { return p.Byte(255) }, "\xff"},
		{"Half 0", func(p *Pen) *Pen { return p.Half(0) }, "\x00\x00"},
		{"Half 258", func(p *Pen) *Pen { return p.Half(258) }, "\x02\x01"},
		{"Half most", func(p *Pen) *Pen { return p.Half(math.MaxUint16) }, "\xff\xff"},
		{"Word 1", func(p *Pen) *Pen { return p.Word(1) }, "\x01\x00\x00\x00"},
		{"Word", func(p *Pen) *Pen { return p.Word(0x89abcdef) }, "\xef\xcd\xab\x89"},
		{"Num 0", func(p *Pen) *Pen { return p.Num(0) }, "\x00"},
		{"Num 127", func(p *Pen) *Pen { return p.Num(127) }, "\x7f"},
		{"Num 128", func(p *Pen) *Pen { return p.Num(128) }, "\x80\x01"},
		{"Num 300", func(p *Pen) *Pen { return p.Num(300) }, "\xac\x02"},
		{"Num 16383", func(p *Pen) *Pen { return p.Num(16383) }, "\xff\x7f"},
		{"Num 16384", func(p *Pen) *Pen { return p.Num(16384) }, "\x80\x80\x01"},
		{"Num 2^63", func(p *Pen) *Pen { return p.Num(1 << 63) }, "\x80\x80\x80\x80\x80\x80\x80\x80\x80\x01"},
		{"Num most", func(p *Pen) *Pen { return p.Num(math.MaxUint64) }, "\xff\xff\xff\xff\xff\xff\xff\xff\xff\x01"},
		{"Blob nil", func(p *Pen) *Pen { return p.Blob(nil) }, "\x00"},
		{"Blob empty", func(p *Pen) *Pen { return p.Blob([]byte{}) }, "\x00"},
		{"Blob", func(p *Pen) *Pen { return p.Blob([]byte("hi")) }, "\x02hi"},
		{"Blob of 130", func(p *Pen) *Pen { return p.Blob(repeat(130)) }, "\x82\x01" + string(repeat(130))},
		{"behind one another", func(p *Pen) *Pen { return p.Byte(9).Blob([]byte{8}).Num(7).Half(6).Word(5) }, "\x09\x01\x08\x07\x06\x00\x05\x00\x00\x00"},
	}
	for _, c := range cases {
		var p Pen
		if q := c.write(&p); q != &p {
			t.Errorf("%s: another Pen", c.name)
		}
		if got := p.Bytes(); string(got) != c.want {
			t.Errorf("%s: %x, not %x", c.name, got, c.want)
		}
	}
}

func TestNumTakesAsFewBytesAsMayBe(t *testing.T) {
	for _, n := range edges() {
		b := new(Pen).Num(n).Bytes()
		if want := max(1, (bits.Len64(n)+6)/7); len(b) != want {
			t.Errorf("%d: %d bytes, not %d", n, len(b), want)
		}
		for i, x := range b {
			if (x >= 128) != (i < len(b)-1) {
				t.Errorf("%d: byte %d of %x", n, i, b)
			}
		}
	}
}

func TestEachWriteAnswersThePen(t *testing.T) {
	var p Pen
	for i, q := range []*Pen{p.Byte(1), p.Half(1), p.Word(1), p.Num(1 << 40), p.Blob([]byte{1})} {
		if q != &p {
			t.Errorf("call %d answers another Pen", i)
		}
	}
}

func TestBytesMayBeAskedAgain(t *testing.T) {
	p := new(Pen).Byte(1)
	if string(p.Bytes()) != "\x01" || string(p.Bytes()) != "\x01" {
		t.Error("asked twice")
	}
	if string(p.Byte(2).Bytes()) != "\x01\x02" {
		t.Error("asked, and gone on")
	}
}

func TestNilPen(t *testing.T) {
	var p *Pen
	for i, q := range []*Pen{p.Byte(1), p.Half(1), p.Word(1), p.Num(1), p.Num(math.MaxUint64), p.Blob(nil), p.Blob([]byte{1})} {
		if q != nil {
			t.Errorf("call %d of a nil Pen answers one", i)
		}
	}
	if len(p.Bytes()) != 0 {
		t.Error("bytes of a nil Pen")
	}
}

func TestPenSharesNoMemory(t *testing.T) {
	room := []byte("abcdef")
	p := new(Pen).Blob(room[:3])
	room[0] = 'x'
	first := p.Bytes()
	if string(first) != "\x03abc" {
		t.Errorf("what was handed in is kept: %q", first)
	}
	all := first[:cap(first)]
	for i := range all {
		all[i] = '!'
	}
	second := p.Bytes()
	if string(second) != "\x03abc" {
		t.Errorf("what was answered is the Pen's own: %q", second)
	}
	third := p.Byte('d').Bytes()
	if string(second) != "\x03abc" || string(third) != "\x03abcd" || string(room) != "xbcdef" {
		t.Errorf("%q %q %q", second, third, room)
	}
}

func TestPensAreApart(t *testing.T) {
	p, q := new(Pen).Byte(1), new(Pen).Byte(2)
	p.Byte(3)
	if string(p.Bytes()) != "\x01\x03" || string(q.Bytes()) != "\x02" {
		t.Error("one Pen writes into another one")
	}
}

// P1.2

func TestEyeReadsWhatAPenWrote(t *testing.T) {
	for _, n := range edges() {
		blob := repeat(int(n % 400))
		p := new(Pen).Num(n).Byte(byte(n)).Blob(blob).Half(uint16(n)).Word(uint32(n)).Bytes()
		e := Read(p)
		if e.Left() != len(p) {
			t.Errorf("%d: Left %d of %d", n, e.Left(), len(p))
		}
		if got := e.Num(math.MaxUint64); got != n {
			t.Errorf("Num %d: %d", n, got)
		}
		if got := e.Byte(); got != byte(n) {
			t.Errorf("Byte %d: %d", n, got)
		}
		if got := e.Blob(len(blob)); !bytes.Equal(got, blob) {
			t.Errorf("Blob %d: %x", n, got)
		}
		if e.Done() != api.ErrForm || e.Left() != 6 {
			t.Errorf("%d: Done %v, Left %d ahead of the last six", n, e.Done(), e.Left())
		}
		if got := e.Half(); got != uint16(n) {
			t.Errorf("Half %d: %d", n, got)
		}
		if got := e.Word(); got != uint32(n) {
			t.Errorf("Word %d: %d", n, got)
		}
		if e.Done() != api.OK || e.Left() != 0 {
			t.Errorf("%d: Done %v, Left %d at the end", n, e.Done(), e.Left())
		}
	}
}

func TestEyeTakesTheLowestFirst(t *testing.T) {
	e := Read([]byte{0xff, 0x02, 0x01, 0xef, 0xcd, 0xab, 0x89})
	if e.Byte() != 0xff || e.Half() != 258 || e.Word() != 0x89abcdef || e.Done() != api.OK {
		t.Error("the lowest isn't first")
	}
}

func TestEyeOfNothing(t *testing.T) {
	for _, p := range [][]byte{nil, {}} {
		if e := Read(p); e.Done() != api.OK || e.Left() != 0 {
			t.Error("it isn't right at first")
		}
		for name, read := range readings() {
			e := Read(p)
			if read(e) != 0 {
				t.Errorf("%s of nothing", name)
			}
			mustBeWrong(t, name, e)
		}
	}
}

func TestTooFewBytes(t *testing.T) {
	cases := []struct {
		name string
		p    string
		read func(*Eye) uint64
	}{
		{"Half", "\x01", readings()["Half"]},
		{"Word", "\x01\x02\x03", readings()["Word"]},
		{"Num", "\x81", readings()["Num"]},
		{"Num of nine", "\x81\x81\x81\x81\x81\x81\x81\x81\x81", readings()["Num"]},
		{"Blob", "\x03ab", readings()["Blob"]},
		{"Blob of a Num that ends early", "\x83", readings()["Blob"]},
		{"Blob of 2^62", "\x80\x80\x80\x80\x80\x80\x80\x80\x40ab", readings()["Blob"]},
		{"Blob of 2^64 - 1", "\xff\xff\xff\xff\xff\xff\xff\xff\xff\x01ab", readings()["Blob"]},
	}
	for _, c := range cases {
		e := Read([]byte(c.p))
		if got := c.read(e); got != 0 {
			t.Errorf("%s: %d", c.name, got)
		}
		mustBeWrong(t, c.name, e)
	}
}

func TestOnceWrongStaysWrong(t *testing.T) {
	p := []byte("\x01\x00\x00\x00\x01\x00\x00\x00")
	e := Read(p)
	if e.Num(0) != 0 || e.Left() != 0 {
		t.Error("above most")
	}
	mustBeWrong(t, "Num above most, with bytes behind it", e)
	e = Read(p)
	if e.Word() != 1 || e.Half() != 1 || e.Word() != 0 {
		t.Error("two bytes aren't a Word")
	}
	mustBeWrong(t, "Word of two bytes", e)
}

func TestNumHasOneForm(t *testing.T) {
	for _, p := range []string{
		"\x80\x00", "\x81\x00", "\xff\x80\x00",
		"\x80\x80\x80\x80\x80\x80\x80\x80\x80\x00",
		"\xff\xff\xff\xff\xff\xff\xff\xff\xff\x00",
		"\xff\xff\xff\xff\xff\xff\xff\xff\xff\x02",
		"\x80\x80\x80\x80\x80\x80\x80\x80\x80\x7f",
		"\x80\x80\x80\x80\x80\x80\x80\x80\x80\x80\x01",
		"\x81\x80\x80\x80\x80\x80\x80\x80\x80\x80\x00",
		"\xff\xff\xff\xff\xff\xff\xff\xff\xff\xff\xff\xff",
	} {
		e := Read([]byte(p + "abc"))
		if got := e.Num(math.MaxUint64); got != 0 {
			t.Errorf("%x: %d", p, got)
		}
		mustBeWrong(t, []byte(p), e)
	}
}

// TestNumIsWhatAPenWrites goes through all first two bytes: what is read as a Num is what a Pen writes of it, and all else is wrong.
func TestNumIsWhatAPenWrites(t *testing.T) {
	for x := range 1 << 16 {
		for _, third := range []byte{0, 1, 127, 128, 255} {
			p := []byte{byte(x), byte(x >> 8), third}
			size, n := 1, uint64(p[0]&127)
			for size < 3 && p[size-1] >= 128 {
				n |= uint64(p[size]&127) << (7 * size)
				size++
			}
			e := Read(p)
			got := e.Num(math.MaxUint64)
			if p[size-1] >= 128 || size > 1 && p[size-1] == 0 {
				if got != 0 || e.Left() != 0 || e.Done() != api.ErrForm {
					t.Fatalf("%x: %d, and it is right", p, got)
				}
				continue
			}
			if got != n || e.Left() != 3-size || !bytes.Equal(new(Pen).Num(got).Bytes(), p[:size]) {
				t.Fatalf("%x: %d, and %d are left", p, got, e.Left())
			}
		}
	}
}

func TestNumMost(t *testing.T) {
	for _, n := range edges() {
		p := new(Pen).Num(n).Bytes()
		if e := Read(p); e.Num(n) != n || e.Done() != api.OK {
			t.Errorf("%d isn't at most %d", n, n)
		}
		if n == 0 {
			continue
		}
		for _, most := range []uint64{0, n / 2, n - 1} {
			e := Read(p)
			if got := e.Num(most); got != 0 {
				t.Errorf("%d at most %d: %d", n, most, got)
			}
			mustBeWrong(t, n, e)
		}
	}
}

func TestBlobMost(t *testing.T) {
	for _, size := range []int{1, 2, 127, 128, 300} {
		p := new(Pen).Blob(repeat(size)).Bytes()
		for _, most := range []int{size, size + 1, math.MaxInt} {
			if e := Read(p); !bytes.Equal(e.Blob(most), repeat(size)) || e.Done() != api.OK {
				t.Errorf("%d isn't at most %d", size, most)
			}
		}
		for _, most := range []int{size - 1, 0, -1, math.MinInt} {
			e := Read(p)
			if got := e.Blob(most); len(got) != 0 {
				t.Errorf("%d at most %d: %x", size, most, got)
			}
			mustBeWrong(t, size, e)
		}
	}
}

func TestBlobOfNothing(t *testing.T) {
	for _, most := range []int{0, 1, -1, -7, math.MinInt} {
		e := Read([]byte{0, 5})
		if len(e.Blob(most)) != 0 || e.Left() != 1 || e.Byte() != 5 || e.Done() != api.OK {
			t.Errorf("a Blob of nothing is above %d", most)
		}
	}
}

func TestDoneAsksForTheEnd(t *testing.T) {
	e := Read([]byte{1, 2})
	for left := 2; left > 0; left-- {
		if e.Left() != left || e.Done() != api.ErrForm {
			t.Errorf("%d are left: Left %d, Done %v", left, e.Left(), e.Done())
		}
		e.Byte()
	}
	if e.Done() != api.OK || e.Done() != api.OK {
		t.Error("nothing is left")
	}
}

func TestNilEye(t *testing.T) {
	var e *Eye
	mustBeWrong(t, "nil", e)
	if e.Num(0) != 0 || len(e.Blob(0)) != 0 || len(e.Blob(-1)) != 0 {
		t.Error("a nil Eye reads")
	}
}

func TestEyeSharesNoMemory(t *testing.T) {
	p := []byte("\x02ab\x02cd\x07????")[:7]
	e := Read(p)
	for i := range p {
		p[i] = '!'
	}
	first := e.Blob(9)
	if string(first) != "ab" {
		t.Fatalf("what was handed in is kept: %q", first)
	}
	_ = append(first, "xyz"...)
	all := first[:cap(first)]
	for i := range all {
		all[i] = 'z'
	}
	second := e.Blob(9)
	if string(second) != "cd" || e.Byte() != 7 || e.Done() != api.OK {
		t.Errorf("what was answered is still to be read: %q", second)
	}
	_ = append(second, 'x')
	if string(first) != "zz" || string(second) != "cd" || string(p) != "!!!!!!!" || string(p[:11]) != "!!!!!!!????" {
		t.Errorf("%q %q %q", first, second, p[:11])
	}
}

func TestEyesAreApart(t *testing.T) {
	p := []byte{1, 2, 3}
	d, e := Read(p), Read(p)
	d.Word()
	if e.Left() != 3 || e.Byte() != 1 || e.Half() != 0x0302 || e.Done() != api.OK || d.Done() != api.ErrForm {
		t.Error("one Eye reads out of another one")
	}
}

// P1, P2: whatever is read off whatever bytes, it ends, and twice the same comes of it.
func TestWhateverIsRead(t *testing.T) {
	seed := uint64(1)
	next := func(n int) int {
		seed = seed*6364136223846793005 + 1442695040888963407
		return int(seed>>33) % n
	}
	for range 20000 {
		p := make([]byte, next(24))
		for i := range p {
			p[i] = byte(next(4) * 85)
		}
		d, e := Read(p), Read(p)
		for range 1 + next(6) {
			left := e.Left()
			var a, b []byte
			var m, n uint64
			switch most := next(300) - 20; next(5) {
			case 0:
				m, n = uint64(d.Byte()), uint64(e.Byte())
			case 1:
				m, n = uint64(d.Half()), uint64(e.Half())
			case 2:
				m, n = uint64(d.Word()), uint64(e.Word())
			case 3:
				m, n = d.Num(uint64(most)), e.Num(uint64(most))
			case 4:
				a, b = d.Blob(most), e.Blob(most)
			}
			if m != n || !bytes.Equal(a, b) || d.Left() != e.Left() || d.Done() != e.Done() {
				t.Fatalf("%x: twice, and not the same", p)
			}
			if e.Left() > left {
				t.Fatalf("%x: more is left than was", p)
			}
		}
	}
}
