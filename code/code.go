// Package code is layer 1: numbers and texts as bytes.
package code

import "corvee/api"

const (
	group     = 7          // bits of a number in one byte
	more      = 1 << group // the bit of a byte that another one follows
	longest   = 10         // bytes of the longest number
	lastGroup = 1          // the greatest tenth byte: nine groups hold 63 of the 64 bits
)

// Uint is b, and the encoding of n behind it.
func Uint(b []byte, n uint64) []byte {
	return putUint(fresh(b, longest), n)
}

// Int is b, and the encoding of a number of either sign behind it.
func Int(b []byte, n int) []byte {
	return putUint(fresh(b, longest), fold(n))
}

// Text is b, and the encoding of a text behind it.
func Text(b []byte, s string) []byte {
	out := putUint(fresh(b, longest+len(s)), uint64(len(s)))
	return append(out, s...)
}

// Ints is b, and the encoding of a row of numbers behind it.
func Ints(b []byte, l []int) []byte {
	out := putUint(fresh(b, longest+len(l)), uint64(len(l)))
	for _, n := range l {
		out = putUint(out, fold(n))
	}
	return out
}

// fresh copies b, so that what is put behind it never lands in the caller's spare capacity.
func fresh(b []byte, room int) []byte {
	out := make([]byte, len(b), len(b)+room)
	copy(out, b)
	return out
}

func putUint(out []byte, n uint64) []byte {
	for n >= more {
		out = append(out, byte(n)|more)
		n >>= group
	}
	return append(out, byte(n))
}

// fold makes small numbers of either sign small unsigned ones: 0, -1, 1, -2 become 0, 1, 2, 3.
func fold(n int) uint64 {
	if n < 0 {
		return uint64(-1-n)<<1 | 1
	}
	return uint64(n) << 1
}

func unfold(n uint64) int {
	if n&1 == 1 {
		return -1 - int(n>>1)
	}
	return int(n >> 1)
}

// Reader takes bytes apart. Behind its first error it holds no bytes any more.
type Reader struct {
	rest []byte
	err  api.Errno
}

// Read is a reader of a copy of b: the caller may go on writing to b.
func Read(b []byte) *Reader {
	return &Reader{rest: fresh(b, 0)}
}

// Uint takes a number.
func (r *Reader) Uint() uint64 {
	if r == nil {
		return 0
	}
	var n uint64
	for i := 0; r.err == api.OK; i++ {
		if len(r.rest) <= i {
			r.Fail(api.ErrShort)
			break
		}
		c := r.rest[i]
		if i == longest-1 && c > lastGroup || i > 0 && c == 0 {
			r.Fail(api.ErrForm)
			break
		}
		n |= uint64(c%more) << (group * i)
		if c < more {
			r.rest = r.rest[i+1:]
			return n
		}
	}
	return 0
}

// Int takes a number of either sign.
func (r *Reader) Int() int {
	return unfold(r.Uint())
}

// Text takes a text of at most so many bytes.
func (r *Reader) Text(most int) string {
	n := r.length(most)
	if n > r.Left() {
		r.Fail(api.ErrShort)
	}
	if n == 0 || r.Err() != api.OK {
		return ""
	}
	s := string(r.rest[:n])
	r.rest = r.rest[n:]
	return s
}

// Ints takes a row of at most so many numbers.
func (r *Reader) Ints(most int) []int {
	n := r.length(most)
	// A number has a byte at least: a false length can't ask for more memory than there are bytes.
	l := make([]int, 0, min(n, r.Left()))
	for range n {
		l = append(l, r.Int())
		if r.Err() != api.OK {
			return nil
		}
	}
	return l
}

// length takes the length of a text or of a row.
func (r *Reader) length(most int) int {
	n := r.Uint()
	if n > uint64(max(most, 0)) {
		r.Fail(api.ErrForm)
		return 0
	}
	return int(n)
}

// Left is how many bytes are left.
func (r *Reader) Left() int {
	if r == nil {
		return 0
	}
	return len(r.rest)
}

// Fail makes e the reader's error, if it has none.
func (r *Reader) Fail(e api.Errno) {
	if r == nil || r.err != api.OK || e == api.OK {
		return
	}
	r.err, r.rest = e, nil
}

// Err is the reader's first error.
func (r *Reader) Err() api.Errno {
	if r == nil {
		return api.ErrArg
	}
	return r.err
}

// End is the first error, too; bytes that are left are one.
func (r *Reader) End() api.Errno {
	if r.Left() > 0 {
		r.Fail(api.ErrForm)
	}
	return r.Err()
}
