package le_test

import (
	"math"
	"strings"
	"testing"

	"toller/le"
)

// numbers are those where a byte begins or ends, and some in between.
func numbers() []uint64 {
	out := []uint64{0, 258, 0x0102030405060708, 0xf0debc9a78563412}
	for bit := range 64 {
		out = append(out, 1<<bit-1, 1<<bit, 1<<bit+1)
	}
	return append(out, math.MaxUint64-1, math.MaxUint64)
}

// lowest is what is left of n in so many bytes.
func lowest(n uint64, width int) uint64 {
	if width >= 8 {
		return n
	}
	return n % (1 << (8 * width))
}

// P1.1: Put.
func TestPut(t *testing.T) {
	for i, c := range []struct {
		b     string
		n     uint64
		width int
		want  string
	}{
		{"", 258, 3, "\x02\x01\x00"},
		{"", 258, 2, "\x02\x01"},
		{"", 258, 1, "\x02"},
		{"ab", 258, 3, "ab\x02\x01\x00"},
		{"", 0, 4, "\x00\x00\x00\x00"},
		{"", 0x0102030405060708, 8, "\x08\x07\x06\x05\x04\x03\x02\x01"},
		{"", 0x0102030405060708, 7, "\x08\x07\x06\x05\x04\x03\x02"},
		{"", 0x0102030405060708, 9, "\x08\x07\x06\x05\x04\x03\x02\x01"},
		{"", 0x0102030405060708, math.MaxInt, "\x08\x07\x06\x05\x04\x03\x02\x01"},
		{"", math.MaxUint64, 8, strings.Repeat("\xff", 8)},
		{"", math.MaxUint64, 1, "\xff"},
		{"ab", math.MaxUint64, 0, "ab"},
		{"ab", math.MaxUint64, -1, "ab"},
		{"ab", math.MaxUint64, -9, "ab"},
		{"ab", math.MaxUint64, math.MinInt, "ab"},
		{"", math.MaxUint64, 0, ""},
	} {
		if got := string(le.Put([]byte(c.b), c.n, c.width)); got != c.want {
			t.Fatalf("%d: Put(%q, %#x, %d): %q, want %q", i, c.b, c.n, c.width, got, c.want)
		}
	}
	if got := string(le.Put(nil, 258, 3)); got != "\x02\x01\x00" {
		t.Errorf("behind nil: %q", got)
	}
	if got := le.Put(nil, 258, 0); len(got) != 0 {
		t.Errorf("nothing behind nil: %q", got)
	}
}

// P1.1: what stands ahead stays, whether or not there is spare room behind it.
func TestPutLeavesWhatIsAhead(t *testing.T) {
	for spare := range 10 {
		b := append(make([]byte, 0, 3+spare), "xyz"...)
		got := le.Put(b, 0x04030201, 4)
		if string(got) != "xyz\x01\x02\x03\x04" || string(b) != "xyz" {
			t.Errorf("spare room of %d: %q, and ahead of it %q", spare, got, b)
		}
	}
}

// P1.1: numbers and bytes one behind the other.
func TestReader(t *testing.T) {
	r := le.From("\x02\x01abc\x07")
	if r.Left() != 6 || r.End() {
		t.Fatalf("at the beginning: %d left, end %v", r.Left(), r.End())
	}
	if got := r.Uint(2); got != 258 || r.Left() != 4 {
		t.Errorf("Uint(2): %d, %d left", got, r.Left())
	}
	if got := r.Bytes(3); got != "abc" || r.Left() != 1 || r.End() {
		t.Errorf("Bytes(3): %q, %d left, end %v", got, r.Left(), r.End())
	}
	if got := r.Uint(1); got != 7 || r.Left() != 0 || !r.End() {
		t.Errorf("Uint(1): %d, %d left, end %v", got, r.Left(), r.End())
	}
	empty := le.From("")
	if empty.Left() != 0 || !empty.End() {
		t.Errorf("of nothing: %d left, end %v", empty.Left(), empty.End())
	}
}

// P1.1: none are always enough, as long as the reader isn't short.
func TestNoneOfThem(t *testing.T) {
	for _, s := range []string{"", "\x01", "\x01\x02\x03\x04\x05\x06\x07\x08\x09"} {
		r := le.From(s)
		for range 3 {
			if got := r.Bytes(0); got != "" || r.Left() != len(s) || r.End() != (s == "") {
				t.Errorf("%q: Bytes(0): %q, %d left, end %v", s, got, r.Left(), r.End())
			}
			if got := r.Uint(0); got != 0 || r.Left() != len(s) || r.End() != (s == "") {
				t.Errorf("%q: Uint(0): %d, %d left, end %v", s, got, r.Left(), r.End())
			}
		}
		if got := r.Bytes(len(s)); got != s || !r.End() {
			t.Errorf("%q: behind none of them: %q, end %v", s, got, r.End())
		}
	}
}

// P1.1: exactly as many as are left, and one more.
func TestAllThatAreLeft(t *testing.T) {
	const s = "\x01\x02\x03\x04\x05\x06\x07\x08\x09\x0a"
	for n := range len(s) + 1 {
		r := le.From(s[:n])
		if got := r.Bytes(n); got != s[:n] || r.Left() != 0 || !r.End() {
			t.Errorf("Bytes(%d) of as many: %q, %d left, end %v", n, got, r.Left(), r.End())
		}
		r = le.From(s[:n])
		if got := r.Bytes(n + 1); got != "" {
			t.Errorf("Bytes(%d) of %d: %q", n+1, n, got)
		}
		wantShort(t, r)
	}
	for width := range 9 {
		r := le.From(s[:width])
		want := lowest(0x0807060504030201, width)
		if got := r.Uint(width); got != want || r.Left() != 0 || !r.End() {
			t.Errorf("Uint(%d) of as many: %#x, %d left, end %v", width, got, r.Left(), r.End())
		}
		r = le.From(s[:width])
		if got := r.Uint(width + 1); got != 0 {
			t.Errorf("Uint(%d) of %d: %#x", width+1, width, got)
		}
		wantShort(t, r)
	}
}

// wantShort asks a short reader for all kinds of things, twice.
func wantShort(t *testing.T, r *le.Reader) {
	t.Helper()
	for range 2 {
		if r.Left() != 0 || r.End() {
			t.Errorf("it isn't short: %d left, end %v", r.Left(), r.End())
		}
		for _, n := range []int{0, 1, 2, 8, 9, -1, math.MaxInt, math.MinInt} {
			if got := r.Bytes(n); got != "" || r.Left() != 0 || r.End() {
				t.Errorf("short, Bytes(%d): %q, %d left, end %v", n, got, r.Left(), r.End())
			}
			if got := r.Uint(n); got != 0 || r.Left() != 0 || r.End() {
				t.Errorf("short, Uint(%d): %d, %d left, end %v", n, got, r.Left(), r.End())
			}
		}
	}
}

// P1.1: all that makes a reader short, however many bytes are left.
func TestShort(t *testing.T) {
	for _, size := range []int{0, 1, 8, 9, 10, 64} {
		s := strings.Repeat("\x05", size)
		for _, n := range []int{-1, -2, -9, math.MinInt, size + 1, size + 9, math.MaxInt} {
			r := le.From(s)
			if got := r.Bytes(n); got != "" {
				t.Errorf("Bytes(%d) of %d: %q", n, size, got)
			}
			wantShort(t, r)
		}
		for _, width := range []int{-1, -2, -9, math.MinInt, 9, 10, 64, math.MaxInt} {
			r := le.From(s)
			if got := r.Uint(width); got != 0 {
				t.Errorf("Uint(%d) of %d: %#x", width, size, got)
			}
			wantShort(t, r)
		}
	}
}

// P1.1: of a nil reader.
func TestNil(t *testing.T) {
	var r *le.Reader
	for _, n := range []int{0, 1, 8, 9, -1, math.MaxInt, math.MinInt} {
		if got := r.Bytes(n); got != "" {
			t.Errorf("Bytes(%d): %q", n, got)
		}
		if got := r.Uint(n); got != 0 {
			t.Errorf("Uint(%d): %d", n, got)
		}
		if r.Left() != 0 || r.End() {
			t.Errorf("%d left, end %v", r.Left(), r.End())
		}
	}
}

// P1.1: readers of one string know nothing of one another.
func TestTwoReaders(t *testing.T) {
	const s = "abcd"
	one, other := le.From(s), le.From(s)
	if one.Bytes(5) != "" || other.Left() != 4 || other.Bytes(4) != s || !other.End() || one.End() {
		t.Error("one reader was told of what the other one was asked")
	}
}

// model is a reader by its definition: a place in the bytes, below 0 once it is short.
type model struct {
	s  string
	at int
}

func (m *model) bytes(n int) string {
	if m.at < 0 || n < 0 || n > len(m.s)-m.at {
		m.at = -1
		return ""
	}
	m.at += n
	return m.s[m.at-n : m.at]
}

func (m *model) uint(width int) uint64 {
	if width > 8 {
		m.at = -1
		return 0
	}
	var n uint64
	digits := m.bytes(width)
	for i := len(digits) - 1; i >= 0; i-- {
		n = n*256 + uint64(digits[i])
	}
	return n
}

func (m *model) left() int {
	if m.at < 0 {
		return 0
	}
	return len(m.s) - m.at
}

func (m *model) end() bool { return m.at == len(m.s) }

// P1.1: every row of four calls, each held against the definition.
func TestEveryOrder(t *testing.T) {
	asked := []int{-1, 0, 1, 2, 3, 8, 9}
	calls := 2 * len(asked)
	const length = 4
	rows := 1
	for range length {
		rows *= calls
	}
	for _, s := range []string{"", "\xfe", "\x00\x80\xff", "\x01\x02\x03\x04\x05\x06\x07\x08\x09\x0a\x0b\xfc"} {
		for row := range rows {
			r, m := le.From(s), &model{s: s}
			rest := row
			for range length {
				call := rest % calls
				rest /= calls
				n := asked[call/2]
				if call%2 == 0 {
					if got, want := r.Bytes(n), m.bytes(n); got != want {
						t.Fatalf("%q, row %d: Bytes(%d): %q, want %q", s, row, n, got, want)
					}
				} else if got, want := r.Uint(n), m.uint(n); got != want {
					t.Fatalf("%q, row %d: Uint(%d): %#x, want %#x", s, row, n, got, want)
				}
				if r.Left() != m.left() || r.End() != m.end() {
					t.Fatalf("%q, row %d: %d left, end %v, want %d, %v", s, row, r.Left(), r.End(), m.left(), m.end())
				}
			}
		}
	}
}

// P1.2: a number is read again, as far as its width goes, and put again to the same bytes.
func TestPutIsReadAgain(t *testing.T) {
	for _, n := range numbers() {
		for width := -1; width <= 9; width++ {
			size := min(max(width, 0), 8)
			b := string(le.Put(nil, n, width))
			if len(b) != size {
				t.Fatalf("Put(%#x, %d): %d bytes", n, width, len(b))
			}
			r := le.From(b)
			got := r.Uint(size)
			if got != lowest(n, size) || !r.End() {
				t.Errorf("%#x of width %d is read as %#x, end %v", n, width, got, r.End())
			}
			if again := string(le.Put(nil, got, width)); again != b {
				t.Errorf("%#x of width %d: %x, put again %x", n, width, b, again)
			}
		}
	}
}

// P1.2: bytes that are read as a number, and put again, are the same.
func TestReadIsPutAgain(t *testing.T) {
	const s = "\x00\xff\x00\x01\x80\x7f\x00\x00\x00\x00\x00\x00\x00\x00\xfe\x10\x00"
	for width := range 9 {
		for at := range len(s) - width {
			b := s[at : at+width]
			if again := string(le.Put(nil, le.From(b).Uint(width), width)); again != b {
				t.Errorf("%x: put again %x", b, again)
			}
		}
	}
}

// P1.2: many numbers in a row, each of its own width, with bytes in between.
func TestRowIsReadAgain(t *testing.T) {
	var b []byte
	for i, n := range numbers() {
		b = le.Put(b, n, i%9)
		b = append(b, "ab"[:i%3]...)
	}
	r := le.From(string(b))
	var again []byte
	for i, n := range numbers() {
		got := r.Uint(i % 9)
		if got != lowest(n, i%9) {
			t.Errorf("%d: %#x, want %#x", i, got, lowest(n, i%9))
		}
		again = append(le.Put(again, got, i%9), r.Bytes(i%3)...)
	}
	if !r.End() || string(again) != string(b) {
		t.Errorf("end %v, put again the same %v", r.End(), string(again) == string(b))
	}
}
