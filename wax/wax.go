// Package wax is layer 2: see shared/doc/02-wax.md.
package wax

import "hoodwink/api"

// polynomial is CRC-32C's, the lowest bit first.
const polynomial = 0x82f63b78

// Table is what sums are made by: for each byte, what it does to a sum.
type Table [256]uint32

// tail is a sum as it stands behind what is sealed, the lowest byte first.
type tail [4]byte

// Make answers a table.
func Make() Table {
	var t Table
	for b := range len(t) {
		t[b] = Step(0, byte(b))
	}
	return t
}

// Sum answers the sum of the parts behind one another.
func (t Table) Sum(parts ...[]byte) uint32 {
	sum := ^uint32(0)
	for _, part := range parts {
		for _, b := range part {
			sum = sum>>8 ^ t[byte(sum)^b]
		}
	}
	return ^sum
}

// tailOf answers what stands behind p when it is sealed.
func (t Table) tailOf(p []byte) tail {
	sum := t.Sum(p)
	return tail{byte(sum), byte(sum >> 8), byte(sum >> 16), byte(sum >> 24)}
}

// Seal answers p and its sum, in memory of its own: p's spare room is the caller's.
func (t Table) Seal(p []byte) []byte {
	end := t.tailOf(p)
	sealed := make([]byte, 0, len(p)+len(end))
	sealed = append(sealed, p...)
	return append(sealed, end[:]...)
}

// Open answers p without its sum.
func (t Table) Open(p []byte) ([]byte, api.Errno) {
	var end tail
	size := len(p) - len(end)
	if size < 0 {
		return nil, api.ErrForm
	}
	inner := p[:size:size]
	copy(end[:], p[size:])
	if end != t.tailOf(inner) {
		return nil, api.ErrSum
	}
	return append([]byte(nil), inner...), api.OK
}

// Step answers what a sum is behind one more byte, before it is turned about.
func Step(sum uint32, b byte) uint32 {
	sum ^= uint32(b)
	for range 8 {
		lowest := sum & 1
		sum = sum>>1 ^ lowest*polynomial
	}
	return sum
}
