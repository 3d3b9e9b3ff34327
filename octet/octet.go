// Package octet is layer 1: see shared/doc/01-octet.md.
package octet

import (
	"math"

	"damask/api"
)

const (
	more    = 128 // what is added to a byte that isn't a varint's last
	longest = 10  // bytes of the longest varint: nine times seven bits, and the 64th
)

// Reader reads numbers and bytes, one behind the other.
type Reader struct {
	rest []byte // what is still to be read, a copy of its own
}

// Uint answers the bytes of a number from 0 on.
func Uint(n int) ([]byte, api.Errno) {
	if n < 0 {
		return nil, api.ErrInput
	}
	return varint(uint64(n)), api.OK
}

// Int answers the bytes of any number.
func Int(n int) []byte {
	return varint(fold(n))
}

// Join answers the bytes of all parts, one behind the other.
func Join(parts ...[]byte) []byte {
	size := 0
	for _, part := range parts {
		size += len(part)
	}
	whole := make([]byte, 0, size)
	for _, part := range parts {
		whole = append(whole, part...)
	}
	return whole
}

// New answers a reader at the beginning of the bytes.
func New(b []byte) *Reader {
	// The caller may write into b later: the reader must not see it.
	return &Reader{rest: Join(b)}
}

// Uint reads a number from 0 on.
func (r *Reader) Uint() (int, api.Errno) {
	if r == nil {
		return 0, api.ErrInput
	}
	x, size, e := scan(r.rest)
	if e != api.OK {
		return 0, e
	}
	if x > math.MaxInt64 {
		return 0, api.ErrForm
	}
	r.rest = r.rest[size:]
	return int(x), api.OK
}

// Int reads any number.
func (r *Reader) Int() (int, api.Errno) {
	if r == nil {
		return 0, api.ErrInput
	}
	x, size, e := scan(r.rest)
	if e != api.OK {
		return 0, e
	}
	r.rest = r.rest[size:]
	return unfold(x), api.OK
}

// Byte reads one byte.
func (r *Reader) Byte() (int, api.Errno) {
	if r == nil {
		return 0, api.ErrInput
	}
	if len(r.rest) == 0 {
		return 0, api.ErrShort
	}
	b := r.rest[0]
	r.rest = r.rest[1:]
	return int(b), api.OK
}

// Bytes reads n bytes.
func (r *Reader) Bytes(n int) ([]byte, api.Errno) {
	if r == nil || n < 0 {
		return nil, api.ErrInput
	}
	if n > len(r.rest) {
		return nil, api.ErrShort
	}
	// The caller may write into the answer, so it is no piece of the reader's bytes.
	piece := Join(r.rest[:n])
	r.rest = r.rest[n:]
	return piece, api.OK
}

// Left answers how many bytes are left.
func (r *Reader) Left() int {
	if r == nil {
		return 0
	}
	return len(r.rest)
}

// Done tells whether nothing is left.
func (r *Reader) Done() api.Errno {
	if r == nil {
		return api.ErrInput
	}
	if len(r.rest) > 0 {
		return api.ErrTail
	}
	return api.OK
}

// fold lays the numbers below 0 between those from 0 on, so that small ones of either sign are short.
// It works on 64 bits with their wrap-round, since twice a number may need 65.
func fold(n int) uint64 {
	twice := uint64(n) << 1
	if n < 0 {
		return ^twice // -2n - 1
	}
	return twice
}

// unfold answers the number that fold made x of.
func unfold(x uint64) int {
	half := int(x >> 1)
	if x&1 == 1 {
		return ^half // -half - 1
	}
	return half
}

// varint answers the varint of x.
func varint(x uint64) []byte {
	b := make([]byte, 0, longest)
	for x >= more {
		b = append(b, byte(x)|more)
		x >>= 7
	}
	return append(b, byte(x))
}

// scan answers the number whose varint stands at the beginning of b, and how many bytes it has.
func scan(b []byte) (x uint64, size int, e api.Errno) {
	for i, c := range b {
		if i == longest-1 && c > 1 {
			return 0, 0, api.ErrForm // past 64 bits
		}
		x |= uint64(c%more) << (7 * i)
		if c >= more {
			continue
		}
		if c == 0 && i > 0 {
			return 0, 0, api.ErrForm // a shorter one says the same
		}
		return x, i + 1, api.OK
	}
	return 0, 0, api.ErrShort
}
