// Package le is layer 1: numbers as bytes, the lowest first. See shared/doc/01-le.md.
package le

// widest is how many bytes the greatest number takes.
const widest = 8

// Put answers b with the lowest width bytes of n behind it, the lowest first.
// A width below 0 counts as 0, one above 8 as 8; b's spare room may be used, as by append.
func Put(b []byte, n uint64, width int) []byte {
	for range min(max(width, 0), widest) {
		b = append(b, byte(n))
		n >>= 8
	}
	return b
}

// Reader is bytes that are left, and whether too many were asked for.
type Reader struct {
	left  string
	short bool
}

// From answers a reader of s.
func From(s string) *Reader { return &Reader{left: s} }

// Bytes answers the next n bytes, which are over then.
// If there aren't as many, or n is below 0, it answers none, and the reader is short from then on.
func (r *Reader) Bytes(n int) string {
	if r == nil {
		return ""
	}
	if n < 0 || n > len(r.left) {
		r.fail()
		return ""
	}
	next := r.left[:n]
	r.left = r.left[n:]
	return next
}

// fail lets go of the bytes too, so that neither Left nor Bytes needs a case of its own for a short reader.
func (r *Reader) fail() {
	r.left, r.short = "", true
}

// Uint answers the next width bytes as a number, the lowest first; 0 where Bytes would be short.
// A width above 8 is no number's: the reader is short then, as by one below 0.
func (r *Reader) Uint(width int) uint64 {
	if width > widest {
		width = -1
	}
	digits := r.Bytes(width)
	var n uint64
	for i := range len(digits) {
		n |= uint64(digits[i]) << (8 * i)
	}
	return n
}

// Left answers how many bytes are left.
func (r *Reader) Left() int {
	if r == nil {
		return 0
	}
	return len(r.left)
}

// End answers whether no byte is left, and the reader isn't short.
func (r *Reader) End() bool {
	return r != nil && !r.short && r.left == ""
}
