// Package pack encodes integers, byte strings and lists of integers as bytes, and reads them back.
package pack

import (
	"math"

	"tidemill/api"
)

// The bits of a group and the groups of the longest number.
const (
	groupBits  = 7
	moreFollow = 1 << groupBits
	mostGroups = 10
)

// Reader reads what was encoded, from its own copy of the bytes.
type Reader struct {
	left []byte // what has not been read
}

// Uint returns b followed by the encoding of an unsigned number.
func Uint(b []byte, n uint64) []byte {
	return addUint(fresh(b, mostGroups), n)
}

// Int returns b followed by the encoding of a signed number.
func Int(b []byte, n int64) []byte {
	return addUint(fresh(b, mostGroups), zigzag(n))
}

// Bytes returns b followed by the number of bytes of x and these bytes.
func Bytes(b, x []byte) []byte {
	out := addUint(fresh(b, mostGroups+len(x)), uint64(len(x)))
	return append(out, x...)
}

// Ints returns b followed by the number of elements of l and each of them as a signed number.
func Ints(b []byte, l []int) []byte {
	out := addUint(fresh(b, mostGroups+len(l)), uint64(len(l)))
	for _, n := range l {
		out = addUint(out, zigzag(int64(n)))
	}
	return out
}

// From returns a reader of b at its beginning.
func From(b []byte) *Reader {
	return &Reader{left: fresh(b, 0)}
}

// Left returns how many bytes have not been read.
func (r *Reader) Left() int {
	return len(r.rest())
}

// Uint reads an unsigned number.
func (r *Reader) Uint() (uint64, api.Errno) {
	n, used, err := number(r.rest())
	if err != api.OK {
		return 0, err
	}
	r.left = r.left[used:]
	return n, api.OK
}

// Int reads a signed number.
func (r *Reader) Int() (int64, api.Errno) {
	n, err := r.Uint()
	if err != api.OK {
		return 0, err
	}
	return unzigzag(n), api.OK
}

// Bytes reads a byte string.
func (r *Reader) Bytes() ([]byte, api.Errno) {
	n, used, err := number(r.rest())
	if err != api.OK {
		return nil, err
	}
	after := r.left[used:]
	if n > uint64(len(after)) {
		return nil, api.ErrShort
	}
	r.left = after[n:]
	return fresh(after[:n], 0), api.OK
}

// Ints reads a list of at most so many integers.
func (r *Reader) Ints(most int) ([]int, api.Errno) {
	ahead := Reader{left: r.rest()} // r itself only moves once all is well
	n, err := ahead.Uint()
	if err != api.OK {
		return nil, err
	}
	if most < 0 || n > uint64(most) {
		return nil, api.ErrRange
	}
	var l []int
	for range n {
		x, err := ahead.Int()
		if err != api.OK {
			return nil, err
		}
		if x < math.MinInt32 || x > math.MaxInt32 {
			return nil, api.ErrRange
		}
		l = append(l, int(x))
	}
	r.left = ahead.left
	return l, api.OK
}

// rest returns what has not been read; a nil reader has nothing.
func (r *Reader) rest() []byte {
	if r == nil {
		return nil
	}
	return r.left
}

// fresh copies b into memory of its own, since an append to b itself might write into the caller's.
func fresh(b []byte, more int) []byte {
	out := make([]byte, len(b), len(b)+more)
	copy(out, b)
	return out
}

// addUint appends the encoding of n in place.
func addUint(b []byte, n uint64) []byte {
	for n >= moreFollow {
		b = append(b, byte(n)|moreFollow)
		n >>= groupBits
	}
	return append(b, byte(n))
}

// zigzag maps signed numbers to unsigned ones, small ones to small ones.
func zigzag(n int64) uint64 {
	return uint64(n)<<1 ^ uint64(n>>63)
}

// unzigzag is the inverse of zigzag.
func unzigzag(n uint64) int64 {
	return int64(n>>1) ^ -int64(n&1)
}

// number returns the unsigned number with which b begins, and how many bytes it takes.
func number(b []byte) (uint64, int, api.Errno) {
	var n uint64
	at := 0
next:
	if at == len(b) {
		return 0, 0, api.ErrShort
	}
	group := b[at]
	if at == mostGroups-1 && group > 1 {
		return 0, 0, api.ErrForm
	}
	n |= uint64(group&^moreFollow) << (groupBits * at)
	at++
	if group >= moreFollow {
		goto next
	}
	if group == 0 && at > 1 {
		return 0, 0, api.ErrForm
	}
	return n, at, api.OK
}
