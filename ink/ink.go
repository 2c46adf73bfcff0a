// Package ink is layer 1: see shared/doc/01-ink.md.
package ink

import "hoodwink/api"

// longestNum is how many bytes the greatest number of 64 bits takes.
const longestNum = 10

// Pen is bytes that grow. Its zero value is empty.
type Pen struct {
	all []byte
}

// Eye reads off the front what a Pen wrote.
type Eye struct {
	rest  []byte
	wrong bool
}

// add is the one place that looks for a nil Pen: all that writes ends here.
func (p *Pen) add(more ...byte) *Pen {
	if p == nil {
		return nil
	}
	p.all = append(p.all, more...)
	return p
}

// Byte writes one byte.
func (p *Pen) Byte(b byte) *Pen { return p.add(b) }

// Half writes two bytes, the lowest first.
func (p *Pen) Half(n uint16) *Pen { return p.add(byte(n), byte(n>>8)) }

// Word writes four bytes, the lowest first.
func (p *Pen) Word(n uint32) *Pen {
	return p.add(byte(n), byte(n>>8), byte(n>>16), byte(n>>24))
}

// Num writes seven bits a byte, the lowest first, in as few bytes as may be.
func (p *Pen) Num(n uint64) *Pen {
	for n >= 1<<7 {
		p.add(byte(n) | 1<<7)
		n >>= 7
	}
	return p.add(byte(n))
}

// Blob writes how many bytes there are, and these.
func (p *Pen) Blob(b []byte) *Pen { return p.Num(uint64(len(b))).add(b...) }

// Bytes answers all that was written. It is a copy, as the Pen may go on.
func (p *Pen) Bytes() []byte {
	if p == nil {
		return nil
	}
	return append([]byte(nil), p.all...)
}

// Read answers an Eye of a copy of p, as the caller may write over p.
func Read(p []byte) *Eye {
	return &Eye{rest: append([]byte(nil), p...)}
}

// fail lets go of what is left, so that of one that isn't right nothing more
// can be read.
func (e *Eye) fail() {
	if e != nil {
		e.rest, e.wrong = nil, true
	}
}

// take answers the next bytes. They are the Eye's own and nobody reads them
// again, so they may be handed out; but without their spare room, which is
// what is still to be read.
func (e *Eye) take(size int) []byte {
	if e == nil || size > len(e.rest) {
		e.fail()
		return nil
	}
	taken := e.rest[:size:size]
	e.rest = e.rest[size:]
	return taken
}

// number is 0 of no bytes, which is what one is told who isn't right.
func number(lowestFirst []byte) uint32 {
	n := uint32(0)
	for i, b := range lowestFirst {
		n |= uint32(b) << (8 * i)
	}
	return n
}

// Byte reads one byte.
func (e *Eye) Byte() byte { return byte(number(e.take(1))) }

// Half reads two bytes.
func (e *Eye) Half() uint16 { return uint16(number(e.take(2))) }

// Word reads four bytes.
func (e *Eye) Word() uint32 { return number(e.take(4)) }

// Num reads a number that is at most most.
func (e *Eye) Num(most uint64) uint64 {
	n := uint64(0)
	for i := range longestNum {
		b := e.Byte()
		if i == longestNum-1 && b > 1 { // of 64 bits one is left for the last byte
			break
		}
		n |= uint64(b&0x7f) << (7 * i)
		if b >= 1<<7 {
			continue
		}
		if n > most || i > 0 && b == 0 { // a last byte of 0 could have been left out
			break
		}
		return n
	}
	e.fail()
	return 0
}

// Blob reads at most most bytes.
func (e *Eye) Blob(most int) []byte {
	size := e.Num(uint64(max(most, 0)))
	return e.take(int(size))
}

// Left answers how many bytes are left.
func (e *Eye) Left() int {
	if e == nil {
		return 0
	}
	return len(e.rest)
}

// Done answers OK if all was read, and was right.
func (e *Eye) Done() api.Errno {
	if e == nil || e.wrong || len(e.rest) > 0 {
		return api.ErrForm
	}
	return api.OK
}
