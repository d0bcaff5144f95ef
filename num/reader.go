package num

import (
	"slices"

	"prolepsis/api"
)

// rest is what is left of a reader's bytes, and the place at which it begins.
type rest struct {
	left []byte
	at   int
}

// skip: what was taken isn't left any more.
func (s *rest) skip(n int) {
	s.left = s.left[n:]
	s.at += n
}

// Reader takes numbers and bytes, up to the first error.
type Reader struct {
	rest
	err api.Errno
}

// New: a reader of bytes.
func New(b []byte) *Reader {
	// The caller may change b later on, and the reader must not see it.
	return &Reader{rest: rest{left: slices.Clone(b)}}
}

// stopped: nothing is taken any more.
func (r *Reader) stopped() bool {
	return r == nil || r.err != api.OK
}

// Number: the next one.
func (r *Reader) Number() uint64 {
	return r.next(func(uint64) api.Errno { return api.OK })
}

// Upto: the next one, which may be so great.
func (r *Reader) Upto(most int) int {
	return int(r.next(above(most, api.ErrRange)))
}

// Some: the next one, of things of which there may be so many.
func (r *Reader) Some(most int) int {
	return int(r.next(above(most, api.ErrMany)))
}

// above: what tells e of each number that is more than most.
func above(most int, e api.Errno) func(uint64) api.Errno {
	return func(n uint64) api.Errno {
		// A most below 0 would be a great one, as a uint64.
		if most < 0 || n > uint64(most) {
			return e
		}
		return api.OK
	}
}

// next: the next number, unless it can't be read or the check tells an error of it.
func (r *Reader) next(check func(uint64) api.Errno) uint64 {
	if r.stopped() {
		return 0
	}
	n, size, e := Read(r.left)
	if e == api.OK {
		e = check(n)
	}
	if e != api.OK {
		r.err = e
		return 0
	}
	r.skip(size)
	return n
}

// Take: the next bytes.
func (r *Reader) Take(n int) []byte {
	if r.stopped() {
		return nil
	}
	if n < 0 || n > len(r.left) {
		r.err = api.ErrEnd
		return nil
	}
	// The reader's own bytes aren't handed out: the caller may change what it is told.
	b := slices.Clone(r.left[:n])
	r.skip(n)
	return b
}

// Fail: there is an error.
func (r *Reader) Fail(e api.Errno) {
	if !r.stopped() {
		r.err = e
	}
}

// Err: the first error.
func (r *Reader) Err() api.Errno {
	if r == nil {
		return api.ErrArg
	}
	return r.err
}

// At: the place.
func (r *Reader) At() int {
	if r == nil {
		return 0
	}
	return r.at
}

// Done: the error; or that bytes are left.
func (r *Reader) Done() api.Errno {
	if e := r.Err(); e != api.OK {
		return e
	}
	if len(r.left) > 0 {
		return api.ErrForm
	}
	return api.OK
}
