package sha_test

import (
	"crypto/sha256"
	"encoding/hex"
	"math/big"
	"slices"
	"strings"
	"testing"

	"toller/api"
	"toller/sha"
)

// uneven is n bytes, of all values in turn, that follow no block's beat.
func uneven(n, seed int) string {
	b := make([]byte, n)
	for i := range b {
		b[i] = byte(i*i*7 + i*31 + i>>8*13 + seed)
	}
	return string(b)
}

// lengths are those at which blocks end, or the number of bits begins a block of its own, and those around them.
func lengths() []int {
	out := []int{0, 1, 2, 3, 54, 55, 56, 57, 62, 63, 64, 65, 66}
	for blocks := 2; blocks <= 5; blocks++ {
		for _, part := range []int{-10, -9, -8, -7, -1, 0, 1} {
			out = append(out, 64*blocks+part)
		}
	}
	return append(out, 1000, 4095, 4096, 4097)
}

// P3.1: the chapter's example, no bytes at all, and those of FIPS 180-4.
func TestExamples(t *testing.T) {
	for _, c := range []struct{ text, want string }{
		{"abc", "ba7816bf 8f01cfea 414140de 5dae2223 b00361a3 96177a9c b410ff61 f20015ad"},
		{"", "e3b0c442 98fc1c14 9afbf4c8 996fb924 27ae41e4 649b934c a495991b 7852b855"},
		{"abcdbcdecdefdefgefghfghighijhijkijkljklmklmnlmnomnopnopq", "248d6a61 d20638b8 e5c02693 0c3e6039 a33ce459 64ff2167 f6ecedd4 19db06c1"},
		{"abcdefghbcdefghicdefghijdefghijkefghijklfghijklmghijklmnhijklmnoijklmnopjklmnopqklmnopqrlmnopqrsmnopqrstnopqrstu", "cf5b16a7 78af8380 036ce59e 7b049237 0b249b11 e8f07a51 afac4503 7afee9d1"},
		{strings.Repeat("a", 1000000), "cdc76e5c 9914fb92 81a1c7e2 84d73e67 f1809a48 a497200e 046d39cc c7112cd0"},
	} {
		want := strings.ReplaceAll(c.want, " ", "")
		if got := sha.Show(sha.Of(c.text)); got != want {
			t.Errorf("%.20q: %s, want %s", c.text, got, want)
		}
	}
}

// P3.1: no texts at all are no bytes, as nil is, and texts without bytes are.
func TestNoTexts(t *testing.T) {
	want := "e3b0c44298fc1c149afbf4c8996fb92427ae41e4649b934ca495991b7852b855"
	for _, list := range [][]string{nil, {}, {""}, {"", "", ""}, make([]string, 100)} {
		if got := sha.Show(sha.Of(list...)); got != want {
			t.Errorf("%q: %s", list, got)
		}
	}
	if got := sha.Show(sha.Of()); got != want {
		t.Errorf("none: %s", got)
	}
}

// P3.1: at every length around the blocks' ends, held against the library: the same byte throughout, and others.
func TestEdges(t *testing.T) {
	for _, n := range lengths() {
		for _, text := range []string{
			strings.Repeat("a", n), strings.Repeat("\x00", n), strings.Repeat("\xff", n), strings.Repeat("\x80", n),
			uneven(n, 0), uneven(n, 101),
		} {
			if got, want := sha.Of(text), api.Root(sha256.Sum256([]byte(text))); got != want {
				t.Errorf("%d bytes, %.10q: %x, want %x", n, text, got, want)
			}
		}
	}
}

// P3.1: at every length up to some blocks, held against the library.
func TestAllLengths(t *testing.T) {
	text := uneven(600, 3)
	for n := range len(text) {
		if got, want := sha.Of(text[:n]), api.Root(sha256.Sum256([]byte(text[:n]))); got != want {
			t.Errorf("%d bytes: %x, want %x", n, got, want)
		}
	}
}

// P3.1: of every byte, and of bytes that are no runes, held against the library.
func TestAllBytes(t *testing.T) {
	for first := range 256 {
		for _, text := range []string{string([]byte{byte(first)}), string([]byte{byte(first), byte(255 - first)}), "é\xc3" + string([]byte{byte(first)})} {
			if got, want := sha.Of(text), api.Root(sha256.Sum256([]byte(text))); got != want {
				t.Errorf("%x: %x, want %x", text, got, want)
			}
		}
	}
}

// P3.1: every bit counts: with one turned, or a byte more or less, the digest is another one.
func TestEveryBitCounts(t *testing.T) {
	for _, n := range []int{1, 55, 56, 64, 65, 130} {
		text := uneven(n, 7)
		want := sha.Of(text)
		for i := range 8 * n {
			other := []byte(text)
			other[i/8] ^= 1 << (i % 8)
			if sha.Of(string(other)) == want {
				t.Errorf("%d bytes: bit %d plays no part", n, i)
			}
		}
		for _, other := range []string{text[:n-1], text[1:], text + "\x00", "\x00" + text, text + "\x80", text + text} {
			if sha.Of(other) == want {
				t.Errorf("%x and %x have one digest", text, other)
			}
		}
	}
}

// rootBits is the first 32 bits behind the point of a prime's root: of power 2 or 3.
func rootBits(prime, power int64) uint32 {
	n := new(big.Int).Lsh(big.NewInt(prime), uint(32*power))
	low, high := big.NewInt(0), new(big.Int).Lsh(big.NewInt(1), 40)
	for new(big.Int).Sub(high, low).Cmp(big.NewInt(1)) > 0 {
		mid := new(big.Int).Rsh(new(big.Int).Add(low, high), 1)
		if new(big.Int).Exp(mid, big.NewInt(power), nil).Cmp(n) > 0 {
			high = mid
		} else {
			low = mid
		}
	}
	return uint32(low.Uint64())
}

// primes are the first 64.
func primes() []int64 {
	var out []int64
	for n := int64(2); len(out) < 64; n++ {
		if !slices.ContainsFunc(out, func(p int64) bool { return n%p == 0 }) {
			out = append(out, n)
		}
	}
	return out
}

// byDefinition is the digest as the chapter tells it, with words a to h by name, and its constants from roots.
func byDefinition(text string) api.Root {
	var k, words []uint32
	for i, p := range primes() {
		k = append(k, rootBits(p, 3))
		if i < 8 {
			words = append(words, rootBits(p, 2))
		}
	}
	b := append([]byte(text), 0x80)
	for (len(b)+8)%64 != 0 {
		b = append(b, 0)
	}
	for shift := 56; shift >= 0; shift -= 8 {
		b = append(b, byte(uint64(len(text))*8>>shift))
	}
	turn := func(x uint32, n int) uint32 { return x>>n | x<<(32-n) }
	for ; len(b) > 0; b = b[64:] {
		w := make([]uint32, 64)
		for i := range w {
			if i < 16 {
				for _, digit := range b[4*i : 4*i+4] {
					w[i] = w[i]*256 + uint32(digit)
				}
				continue
			}
			x, y := w[i-15], w[i-2]
			w[i] = w[i-16] + (turn(x, 7) ^ turn(x, 18) ^ x>>3) + w[i-7] + (turn(y, 17) ^ turn(y, 19) ^ y>>10)
		}
		a, b, c, d, e, f, g, h := words[0], words[1], words[2], words[3], words[4], words[5], words[6], words[7]
		for i := range w {
			t := h + (turn(e, 6) ^ turn(e, 11) ^ turn(e, 25)) + (e&f ^ ^e&g) + k[i] + w[i]
			u := (turn(a, 2) ^ turn(a, 13) ^ turn(a, 22)) + (a&b ^ a&c ^ b&c)
			h, g, f, e, d, c, b, a = g, f, e, d+t, c, b, a, t+u
		}
		for i, n := range []uint32{a, b, c, d, e, f, g, h} {
			words[i] += n
		}
	}
	var r api.Root
	for i := range r {
		r[i] = byte(words[i/4] >> (24 - i%4*8))
	}
	return r
}

// P3.1: held against the chapter's own words.
func TestByDefinition(t *testing.T) {
	for _, n := range lengths() {
		text := uneven(n, 57)
		if got, want := sha.Of(text), byDefinition(text); got != want {
			t.Errorf("%d bytes: %x, want %x", n, got, want)
		}
	}
}

// P3.1: the number of bits needs more than three bytes, and more than four.
func TestManyBits(t *testing.T) {
	text := uneven(1<<20, 5)
	for _, times := range []int{1, 2, 512} {
		if times > 2 && testing.Short() {
			t.Skip("takes some seconds")
		}
		whole := sha256.New()
		var list []string
		for range times {
			whole.Write([]byte(text))
			list = append(list, text)
		}
		if got, want := sha.Of(list...), api.Root(whole.Sum(nil)); got != want {
			t.Errorf("%d bytes: %x, want %x", times*len(text), got, want)
		}
	}
}

// P3.1: Less of digests that are the same, and of some that part in one place, whatever stands behind it.
func TestLess(t *testing.T) {
	same := []api.Root{{}, {1}, {31: 1}, {0: 255, 31: 255}, sha.Of("abc")}
	for _, r := range same {
		if sha.Less(r, r) {
			t.Errorf("%x is less than itself", r)
		}
	}
	for at := range 32 {
		for _, pair := range [][2]byte{{0, 1}, {0, 255}, {1, 2}, {127, 128}, {128, 129}, {15, 16}, {254, 255}} {
			for _, behind := range [][2]byte{{0, 0}, {255, 0}, {0, 255}, {7, 7}} {
				a, b := sha.Of("the same ahead"), sha.Of("the same ahead")
				a[at], b[at] = pair[0], pair[1]
				for i := at + 1; i < 32; i++ {
					a[i], b[i] = behind[0], behind[1]
				}
				if !sha.Less(a, b) || sha.Less(b, a) {
					t.Errorf("%x, %x: Less %v, and the other way %v", a, b, sha.Less(a, b), sha.Less(b, a))
				}
			}
		}
	}
}

// P3.1: Less sets digests in one row, as their digits do.
func TestLessIsOneOrder(t *testing.T) {
	all := []api.Root{{}, {31: 1}, {1}, {1, 0, 5}, {255}}
	for i := range 60 {
		all = append(all, sha.Of(uneven(i, i)))
	}
	for _, a := range all {
		for _, b := range all {
			if got, want := sha.Less(a, b), sha.Show(a) < sha.Show(b); got != want {
				t.Errorf("Less(%x, %x): %v", a, b, got)
			}
			if (a == b) != (!sha.Less(a, b) && !sha.Less(b, a)) {
				t.Errorf("%x and %x: neither is ahead, or both are", a, b)
			}
		}
	}
}

// P3.1: Show of all bytes 0, all bytes 255, and others.
func TestShow(t *testing.T) {
	var full, counted api.Root
	for i := range full {
		full[i], counted[i] = 255, byte(i*9)
	}
	for _, c := range []struct {
		r    api.Root
		want string
	}{
		{api.Root{}, strings.Repeat("0", 64)},
		{full, strings.Repeat("f", 64)},
		{api.Root{0x1a}, "1a" + strings.Repeat("0", 62)},
		{api.Root{31: 0xa1}, strings.Repeat("0", 62) + "a1"},
		{api.Root{0x01, 0x23, 0x45, 0x67, 0x89, 0xab, 0xcd, 0xef}, "0123456789abcdef" + strings.Repeat("0", 48)},
		{api.Root{0x10, 0x32, 0x54, 0x76, 0x98, 0xba, 0xdc, 0xfe}, "1032547698badcfe" + strings.Repeat("0", 48)},
		{counted, "0009121b242d363f48515a636c757e879099a2abb4bdc6cfd8e1eaf3fc050e17"},
	} {
		if got := sha.Show(c.r); got != c.want {
			t.Errorf("%v: %s, want %s", c.r, got, c.want)
		}
	}
}

// P3.1: Show of every byte in every place is what the library reads back to the digest.
func TestShowIsReadBack(t *testing.T) {
	for at := range 32 {
		for n := range 256 {
			var r api.Root
			r[at], r[31-at] = byte(n), byte(n^0x5a)
			s := sha.Show(r)
			b, err := hex.DecodeString(s)
			if err != nil || len(s) != 64 || api.Root(b) != r || strings.ToLower(s) != s {
				t.Fatalf("%v is told as %q", r, s)
			}
		}
	}
}

// P3.1: digests are values: changing one plays no part in another, nor does what was asked ahead of it.
func TestDigestsAreTheirOwn(t *testing.T) {
	one := sha.Of("abc")
	sha.Of(uneven(1000, 1))
	other := sha.Of("abc")
	if one != other {
		t.Errorf("%x, and then %x", one, other)
	}
	other[0]++
	if one == other || one != sha.Of("abc") {
		t.Error("two digests share memory")
	}
	sha.Show(one)
	sha.Less(one, other)
	if one != sha.Of("abc") {
		t.Error("a digest that was handed in is changed")
	}
}

// P3.2: cut in every place, and in every two places of a text of some blocks.
func TestCuts(t *testing.T) {
	for _, n := range []int{0, 1, 3, 55, 56, 63, 64, 65, 128, 150} {
		text := uneven(n, 19)
		want := sha.Of(text)
		for i := range n + 1 {
			for j := i; j <= n; j++ {
				if got := sha.Of(text[:i], text[i:j], text[j:]); got != want {
					t.Fatalf("%d bytes, cut at %d and %d: %x, want %x", n, i, j, got, want)
				}
			}
			if got := sha.Of(text[:i], text[i:]); got != want {
				t.Errorf("%d bytes, cut at %d: %x, want %x", n, i, got, want)
			}
		}
	}
}

// P3.2: cut into pieces of one length, with texts without bytes ahead of, between and behind them.
func TestPieces(t *testing.T) {
	for _, n := range lengths() {
		text := uneven(n, 23)
		want := api.Root(sha256.Sum256([]byte(text)))
		for _, piece := range []int{1, 2, 3, 7, 31, 32, 33, 55, 56, 63, 64, 65, 127, 128, 129, 5000} {
			var plain []string
			gaps := []string{"", ""}
			for part := range slices.Chunk([]byte(text), piece) {
				plain = append(plain, string(part))
				gaps = append(gaps, string(part), "")
			}
			was := slices.Clone(gaps)
			if got := sha.Of(plain...); got != want {
				t.Errorf("%d bytes, %d a piece: %x, want %x", n, piece, got, want)
			}
			if got := sha.Of(gaps...); got != want {
				t.Errorf("%d bytes, %d a piece, and empty ones: %x, want %x", n, piece, got, want)
			}
			if !slices.Equal(gaps, was) {
				t.Errorf("%d bytes, %d a piece: the list is changed", n, piece)
			}
		}
	}
}

// P3.2: the bytes' order counts, though their cuts don't.
func TestOrderCounts(t *testing.T) {
	if sha.Of("a", "bc") != sha.Of("ab", "c") || sha.Of("a", "", "b", "c") != sha.Of("abc", "") {
		t.Error("the cuts play a part")
	}
	if sha.Of("a", "b") == sha.Of("b", "a") || sha.Of("a", "b") == sha.Of("a") || sha.Of("a", "b") == sha.Of("b") {
		t.Error("a text, or the texts' order, plays no part")
	}
}

// P3.2: a list with spare room is left as it is, and what stands in that room plays no part.
func TestListIsLeft(t *testing.T) {
	room := []string{"ab", "", "c", "spare", "room"}
	want := sha.Of("abc")
	if got := sha.Of(room[:3]...); got != want {
		t.Errorf("%x, want %x", got, want)
	}
	if !slices.Equal(room, []string{"ab", "", "c", "spare", "room"}) {
		t.Errorf("the list is changed: %q", room)
	}
}
