package bitlist_test

import (
	"math"
	"slices"
	"strings"
	"testing"

	"toller/bitlist"
)

// row reads a row from a text: y for yes, any other for no.
func row(text string) []bool {
	list := make([]bool, len(text))
	for i := range list {
		list[i] = text[i] == 'y'
	}
	return list
}

// rows are all rows of n.
func rows(n int) [][]bool {
	out := [][]bool{{}}
	for range n {
		var longer [][]bool
		for _, list := range out {
			longer = append(longer, append(slices.Clone(list), false), append(slices.Clone(list), true))
		}
		out = longer
	}
	return out
}

// long are rows of many lengths, each with some yes and no that follow no byte's beat.
func long() [][]bool {
	var out [][]bool
	for _, n := range []int{13, 15, 16, 17, 23, 24, 25, 31, 32, 33, 63, 64, 65, 255, 256, 257, 1000, 4096} {
		for _, step := range []int{1, 3, 5, 7, n + 1} {
			list := make([]bool, n)
			for i := range list {
				list[i] = i%step == step-1
			}
			out = append(out, list)
		}
	}
	return out
}

// strs are all strings of n bytes.
func strs(n int) []string {
	out := []string{""}
	for range n {
		var longer []string
		for _, s := range out {
			for b := range 256 {
				longer = append(longer, s+string([]byte{byte(b)}))
			}
		}
		out = longer
	}
	return out
}

// bytesOf is a row's bytes by their definition: all bits in a row, one 1 behind them, 0 up to the byte's end.
func bytesOf(list []bool) string {
	all := append(slices.Clone(list), true)
	for len(all)%8 != 0 {
		all = append(all, false)
	}
	out := make([]byte, len(all)/8)
	for i, yes := range all {
		if yes {
			out[i/8] += []byte{1, 2, 4, 8, 16, 32, 64, 128}[i%8]
		}
	}
	return string(out)
}

// rowOf is the row of bytes by its definition: all bits in a row, those ahead of the last 1, if that is in the last byte.
func rowOf(s string) ([]bool, bool) {
	if strings.HasSuffix(s, "\x00") || s == "" {
		return nil, false
	}
	var all []bool
	for _, b := range []byte(s) {
		for range 8 {
			all = append(all, b%2 == 1)
			b /= 2
		}
	}
	for !all[len(all)-1] {
		all = all[:len(all)-1]
	}
	return all[:len(all)-1], true
}

// edges are rows that the chapter names, or that stand where a byte ends, and their bytes.
func edges() []struct{ row, want string } {
	return []struct{ row, want string }{
		{"", "\x01"},
		{"n", "\x02"},
		{"y", "\x03"},
		{"yny", "\x0d"},
		{"nnyy", "\x1c"},
		{"nnnnnnn", "\x80"},
		{"nnnnnny", "\xc0"},
		{"ynnnnnn", "\x81"},
		{"yyyyyyy", "\xff"},
		{"nnnnnnnn", "\x00\x01"},
		{"ynnnnnnn", "\x01\x01"},
		{"nnnnnnny", "\x80\x01"},
		{"yyyyyyyy", "\xff\x01"},
		{"nnnnnnnnn", "\x00\x02"},
		{"nnnnnnnny", "\x00\x03"},
		{"yyyyyyyyn", "\xff\x02"},
		{"yyyyyyyyy", "\xff\x03"},
		{"ynynynynynynyny", "\x55\xd5"},
		{"nnnnnnnnnnnnnnnn", "\x00\x00\x01"},
		{"nnnnnnnnnnnnnnny", "\x00\x80\x01"},
		{"nnnnnnnnnnnnnnnnn", "\x00\x00\x02"},
	}
}

// P2.1: Put, Get and Size of rows at the edges, with as many as most, and fewer.
func TestEdges(t *testing.T) {
	for _, c := range edges() {
		list := row(c.row)
		n := len(list)
		if got := string(bitlist.Put(nil, list)); got != c.want {
			t.Errorf("Put(%q): %x, want %x", c.row, got, c.want)
		}
		if got := bitlist.Size(n); got != len(c.want) {
			t.Errorf("Size(%d): %d, want %d", n, got, len(c.want))
		}
		for _, most := range []int{n, n + 1, n + 7, n + 8, math.MaxInt} {
			if got, ok := bitlist.Get(c.want, most); !ok || !slices.Equal(got, list) {
				t.Errorf("Get(%x, %d): %v, %v, want %q", c.want, most, got, ok, c.row)
			}
		}
		for _, most := range []int{n - 1, n - 2, n - 8, -1, math.MinInt} {
			if most >= n {
				continue
			}
			if got, ok := bitlist.Get(c.want, most); ok || len(got) != 0 {
				t.Errorf("Get(%x, %d): %v, %v, of a row of %d", c.want, most, got, ok, n)
			}
		}
	}
}

// P2.1: nil and empty mean the same.
func TestNothing(t *testing.T) {
	for _, list := range [][]bool{nil, {}, make([]bool, 0, 9)} {
		if got := string(bitlist.Put(nil, list)); got != "\x01" {
			t.Errorf("Put: %x", got)
		}
		if got := string(bitlist.Put([]byte{}, list)); got != "\x01" {
			t.Errorf("Put behind nothing: %x", got)
		}
		if got := bitlist.Places(list); len(got) != 0 {
			t.Errorf("Places: %v", got)
		}
	}
	if got, ok := bitlist.Get("\x01", 0); !ok || len(got) != 0 {
		t.Errorf("Get of an empty row, and most 0: %v, %v", got, ok)
	}
}

// P2.1: bytes that are no row's, whatever the most is.
func TestNoRow(t *testing.T) {
	for _, s := range []string{"", "\x00", "\x00\x00", "\x01\x00", "\xff\x00", "\x00\x01\x00", "\xff\xff\xff\x00", strings.Repeat("\xff", 40) + "\x00"} {
		for _, most := range []int{math.MinInt, -9, -8, -1, 0, 1, 7, 8, 16, 99, math.MaxInt} {
			if got, ok := bitlist.Get(s, most); ok || len(got) != 0 {
				t.Errorf("Get(%x, %d): %v, %v", s, most, got, ok)
			}
		}
	}
}

// P2.1: most below 0 lets no row through, not even an empty one.
func TestMostBelowNone(t *testing.T) {
	for _, s := range append(strs(1), "\x00\x01", "\xff\xff") {
		for _, most := range []int{-1, -2, -8, math.MinInt} {
			if got, ok := bitlist.Get(s, most); ok || len(got) != 0 {
				t.Errorf("Get(%x, %d): %v, %v", s, most, got, ok)
			}
		}
	}
}

// P2.1: how many bytes there are.
func TestSize(t *testing.T) {
	for _, c := range []struct{ n, want int }{
		{0, 1}, {1, 1}, {6, 1}, {7, 1}, {8, 2}, {9, 2}, {15, 2}, {16, 3}, {17, 3}, {23, 3}, {24, 4},
		{-1, 1}, {-7, 1}, {-8, 1}, {-9, 1}, {-16, 1}, {math.MinInt + 1, 1}, {math.MinInt, 1},
		{1<<31 - 1, 1 << 28}, {1 << 31, 1<<28 + 1}, {math.MaxInt, math.MaxInt/8 + 1}, {math.MaxInt - 8, math.MaxInt / 8},
	} {
		if got := bitlist.Size(c.n); got != c.want {
			t.Errorf("Size(%d): %d, want %d", c.n, got, c.want)
		}
	}
	for n := range 3000 {
		if got := len(bitlist.Put(nil, make([]bool, n))); got != bitlist.Size(n) {
			t.Errorf("a row of %d has %d bytes, Size says %d", n, got, bitlist.Size(n))
		}
	}
}

// P2.1: where a row says yes.
func TestPlaces(t *testing.T) {
	for _, c := range []struct {
		row  string
		want []int
	}{
		{"", nil},
		{"n", nil},
		{"y", []int{0}},
		{"nyyny", []int{1, 2, 4}},
		{"nnnnnnnnnnnnnnnn", nil},
		{"yyyyyyyyy", []int{0, 1, 2, 3, 4, 5, 6, 7, 8}},
		{"ynnnnnnyynnnnnnyy", []int{0, 7, 8, 15, 16}},
	} {
		if got := bitlist.Places(row(c.row)); !slices.Equal(got, c.want) {
			t.Errorf("Places(%q): %v, want %v", c.row, got, c.want)
		}
	}
	for _, list := range append(rows(10), long()...) {
		again := make([]bool, len(list))
		last := -1
		for _, at := range bitlist.Places(list) {
			if at <= last || at >= len(list) {
				t.Fatalf("Places(%v): %v", list, bitlist.Places(list))
			}
			again[at], last = true, at
		}
		if !slices.Equal(again, list) {
			t.Fatalf("Places(%v): %v", list, bitlist.Places(list))
		}
	}
}

// P2.1: what stands ahead stays, whether or not there is spare room behind it, and whatever that holds.
func TestPutLeavesWhatIsAhead(t *testing.T) {
	for _, c := range edges() {
		for spare := range 6 {
			room := append([]byte("xyz"), strings.Repeat("\xff", spare)...)
			b := room[:3]
			if got := string(bitlist.Put(b, row(c.row))); got != "xyz"+c.want || string(b) != "xyz" {
				t.Errorf("%q, spare room of %d: %x, and ahead of it %x", c.row, spare, got, b)
			}
		}
	}
}

// P2.1: every row of at most twelve, and longer ones, held against the definition.
func TestPutByDefinition(t *testing.T) {
	for n := range 13 {
		for _, list := range rows(n) {
			if got := string(bitlist.Put(nil, list)); got != bytesOf(list) {
				t.Fatalf("Put(%v): %x, want %x", list, got, bytesOf(list))
			}
		}
	}
	for _, list := range long() {
		if got := string(bitlist.Put(nil, list)); got != bytesOf(list) {
			t.Fatalf("Put(%v): %x, want %x", list, got, bytesOf(list))
		}
	}
}

// P2.1: all strings of at most two bytes, with every most around their rows' lengths, held against the definition.
func TestGetByDefinition(t *testing.T) {
	for n := range 3 {
		for _, s := range strs(n) {
			want, is := rowOf(s)
			for most := -1; most <= 17; most++ {
				got, ok := bitlist.Get(s, most)
				if is && len(want) <= most {
					if !ok || !slices.Equal(got, want) {
						t.Fatalf("Get(%x, %d): %v, %v, want %v", s, most, got, ok, want)
					}
				} else if ok || len(got) != 0 {
					t.Fatalf("Get(%x, %d): %v, %v, want none", s, most, got, ok)
				}
			}
		}
	}
}

// P2.1: what is handed in isn't changed, spare room included, and answers share no memory.
func TestMemory(t *testing.T) {
	room := row("ynyynnynyyyynnyyy")
	was := slices.Clone(room)
	for n := range room {
		list := room[:n]
		first := bitlist.Put(nil, list)
		clear(bitlist.Put(nil, list))
		if string(first) != bytesOf(list) {
			t.Errorf("two answers of Put share memory: %x", first)
		}
		places := bitlist.Places(list)
		want := slices.Clone(places)
		clear(bitlist.Places(list))
		if !slices.Equal(places, want) {
			t.Errorf("two answers of Places share memory: %v", places)
		}
		s := string(first)
		one, _ := bitlist.Get(s, n)
		other, _ := bitlist.Get(s, n)
		clear(other)
		if !slices.Equal(one, list) || s != bytesOf(list) {
			t.Errorf("two answers of Get share memory: %v", one)
		}
		if !slices.Equal(room, was) {
			t.Fatalf("a row of %d that was handed in is changed: %v", n, room)
		}
	}
}

// P2.2: what is put is read again to the same row.
func TestPutIsReadAgain(t *testing.T) {
	all := long()
	for n := range 13 {
		all = append(all, rows(n)...)
	}
	for _, list := range all {
		s := string(bitlist.Put(nil, list))
		if got, ok := bitlist.Get(s, len(list)); !ok || !slices.Equal(got, list) {
			t.Fatalf("%v is put as %x, and read as %v, %v", list, s, got, ok)
		}
		if got, ok := bitlist.Get(s, len(list)-1); ok || len(got) != 0 {
			t.Fatalf("%x: one more than most is read as %v", s, got)
		}
	}
}

// P2.2: bytes that are read are those that are put again, so that no other bytes are read to the row.
func TestReadIsPutAgain(t *testing.T) {
	read := 0
	for n := range 3 {
		for _, s := range strs(n) {
			list, ok := bitlist.Get(s, 16)
			if !ok {
				continue
			}
			read++
			if again := string(bitlist.Put(nil, list)); again != s {
				t.Fatalf("%x is read as %v, and put again as %x", s, list, again)
			}
		}
	}
	// As many as there are rows of at most fifteen: each is read from some bytes, and so from just one.
	if read != 1<<16-1 {
		t.Errorf("%d strings of at most two bytes are rows", read)
	}
}

// P2.2: a row's bytes with one bit turned, cut, or with bytes behind them are never read to that row.
func TestOtherBytesAreNotTheRow(t *testing.T) {
	for _, list := range append(rows(9), long()...) {
		s := string(bitlist.Put(nil, list))
		others := []string{s[:len(s)-1], s + "\x00", s + "\x01", s + "\x80", "\x00" + s, "\x01" + s}
		for i := range min(8*len(s), 80) {
			turned := []byte(s)
			turned[i/8] ^= 1 << (i % 8)
			others = append(others, string(turned))
		}
		for _, other := range others {
			if got, ok := bitlist.Get(other, math.MaxInt); ok && slices.Equal(got, list) {
				t.Fatalf("%x and %x are both read as %v", s, other, list)
			}
		}
	}
}
