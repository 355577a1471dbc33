package mac_test

import (
	"crypto/hmac"
	"crypto/sha256"
	"encoding/hex"
	"slices"
	"strconv"
	"strings"
	"testing"

	"toller/api"
	"toller/mac"
)

// uneven is n bytes, of all values in turn, that follow no block's beat.
func uneven(n, seed int) string {
	b := make([]byte, n)
	for i := range b {
		b[i] = byte(i*i*7 + i*31 + i>>8*13 + seed)
	}
	return string(b)
}

// byLibrary is the tag as the library tells it.
func byLibrary(key, text string) api.Tag {
	h := hmac.New(sha256.New, []byte(key))
	h.Write([]byte(text))
	return api.Tag(h.Sum(nil)[:16])
}

// byDefinition is the tag as the chapter tells it, with the library's digests.
func byDefinition(key, text string) api.Tag {
	if len(key) > 64 {
		d := sha256.Sum256([]byte(key))
		key = string(d[:])
	}
	for len(key) < 64 {
		key += "\x00"
	}
	var inner, outer []byte
	for _, b := range []byte(key) {
		inner, outer = append(inner, b^0x36), append(outer, b^0x5c)
	}
	d := sha256.Sum256(append(inner, text...))
	d = sha256.Sum256(append(outer, d[:]...))
	return api.Tag(d[:16])
}

// keys are the edges of a key's length, and of its bytes, by what they are called.
func keys() map[string]string {
	all := make([]byte, 256)
	for i := range all {
		all[i] = byte(i)
	}
	out := map[string]string{
		"none": "", "a": "a", "byte 0": "\x00", "byte 255": "\xff", "0x36": strings.Repeat("\x36", 64), "0x5c": strings.Repeat("\x5c", 64),
		"no runes": "\xc3\x28\xff\xfe", "runes": "clé", "ends in 0": "key\x00\x00", "begins with 0": "\x00\x00key", "0 within": "k\x00e\x00y\xff",
		"all bytes": string(all), "all bytes to 63": string(all[:64]), "all bytes from 192": string(all[192:]),
		"64, ends in 0": uneven(63, 1) + "\x00", "65, ends in 0": uneven(64, 1) + "\x00",
	}
	for _, n := range []int{2, 16, 20, 31, 32, 33, 55, 56, 62, 63, 64, 65, 66, 127, 128, 129, 300, 1000} {
		name := " of " + strconv.Itoa(n)
		out["uneven"+name], out["bytes 0"+name], out["bytes 255"+name] = uneven(n, n), strings.Repeat("\x00", n), strings.Repeat("\xff", n)
	}
	return out
}

// texts are ordinary bytes, and those around the ends of blocks.
func texts() []string {
	out := []string{"", "a", "\x00", "\xff", "what do ya want for nothing?", "clé", "\xc3\x28\x80"}
	for _, n := range []int{31, 32, 54, 55, 56, 57, 63, 64, 65, 118, 119, 120, 128, 191, 192, 193, 256, 1000, 5000} {
		out = append(out, uneven(n, 11), strings.Repeat("\x00", n), strings.Repeat("\xff", n))
	}
	return out
}

// P4.1: the chapter's example, those of RFC 4231, and no bytes at all.
func TestExamples(t *testing.T) {
	counted := make([]byte, 25)
	for i := range counted {
		counted[i] = byte(i + 1)
	}
	for _, c := range []struct{ key, text, want string }{
		{"Jefe", "what do ya want for nothing?", "5bdcc146bf60754e6a042426089575c7"},
		{strings.Repeat("\x0b", 20), "Hi There", "b0344c61d8db38535ca8afceaf0bf12b"},
		{strings.Repeat("\xaa", 20), strings.Repeat("\xdd", 50), "773ea91e36800e46854db8ebd09181a7"},
		{string(counted), strings.Repeat("\xcd", 50), "82558a389a443c0ea4cc819899f2083a"},
		{strings.Repeat("\x0c", 20), "Test With Truncation", "a3b6167473100ee06e0c796c2955552b"},
		{strings.Repeat("\xaa", 131), "Test Using Larger Than Block-Size Key - Hash Key First", "60e431591ee0b67f0d8a26aacbf5b77f"},
		{strings.Repeat("\xaa", 131), "This is a test using a larger than block-size key and a larger than block-size data. The key needs to be hashed before being used by the HMAC algorithm.", "9b09ffa71b942fcb27635fbcd5b0e944"},
		{"", "", "b613679a0814d9ec772f95d778c35fc5"},
	} {
		tag := mac.Of(c.key, c.text)
		if got := hex.EncodeToString(tag[:]); got != c.want {
			t.Errorf("%.20q, %.20q: %s, want %s", c.key, c.text, got, c.want)
		}
	}
}

// P4.1: every key with every text, held against the library and against the chapter's own words.
func TestKeysAndTexts(t *testing.T) {
	for name, key := range keys() {
		for _, text := range texts() {
			got := mac.Of(key, text)
			if want := byLibrary(key, text); got != want {
				t.Errorf("key %s, %d bytes: %x, the library has %x", name, len(text), got, want)
			}
			if want := byDefinition(key, text); got != want {
				t.Errorf("key %s, %d bytes: %x, the chapter has %x", name, len(text), got, want)
			}
		}
	}
}

// P4.1: keys of every length up to some blocks, and texts of every length.
func TestAllLengths(t *testing.T) {
	long := uneven(400, 77)
	for n := range len(long) {
		if got, want := mac.Of(long[:n], "abc"), byLibrary(long[:n], "abc"); got != want {
			t.Errorf("a key of %d bytes: %x, want %x", n, got, want)
		}
		if got, want := mac.Of("a key", long[:n]), byLibrary("a key", long[:n]); got != want {
			t.Errorf("%d bytes: %x, want %x", n, got, want)
		}
	}
}

// P4.1: every byte, as a key, in one, and as a text.
func TestAllBytes(t *testing.T) {
	for n := range 256 {
		b := string([]byte{byte(n)})
		for _, c := range [][2]string{{b, "text"}, {"k" + b + "y", "text"}, {uneven(63, n) + b, b}, {"key", b}, {b, b}} {
			if got, want := mac.Of(c[0], c[1]), byLibrary(c[0], c[1]); got != want {
				t.Errorf("%x, %x: %x, want %x", c[0], c[1], got, want)
			}
		}
	}
}

// P4.1: bytes of many blocks, and a key of many.
func TestLong(t *testing.T) {
	long := uneven(1<<20+5, 9)
	for _, c := range [][2]string{{"key", long}, {long, "text"}, {long, long}} {
		if got, want := mac.Of(c[0], c[1]), byLibrary(c[0], c[1]); got != want {
			t.Errorf("a key of %d bytes, %d bytes: %x, want %x", len(c[0]), len(c[1]), got, want)
		}
	}
}

// P4.1: bytes 0 behind a key play no part up to 64 bytes, and do from there on.
func TestFilledUp(t *testing.T) {
	for _, n := range []int{0, 1, 4, 31, 32, 62, 63} {
		key := strings.Repeat("k", n)
		want := mac.Of(key, "text")
		for full := n; full <= 64; full++ {
			if got := mac.Of(key+strings.Repeat("\x00", full-n), "text"); got != want {
				t.Errorf("%d bytes, filled up to %d: %x, want %x", n, full, got, want)
			}
		}
		for _, full := range []int{65, 66, 128} {
			if mac.Of(key+strings.Repeat("\x00", full-n), "text") == want {
				t.Errorf("%d bytes, filled up to %d, has the tag of the key alone", n, full)
			}
		}
		if n > 0 && mac.Of(strings.Repeat("\x00", 64-n)+key, "text") == want {
			t.Errorf("%d bytes: those that are filled up stand ahead of the key", n)
		}
	}
}

// P4.1: a key's digest stands in its place from 65 bytes on, and not ahead of that.
func TestDigestOfKey(t *testing.T) {
	for _, n := range []int{1, 32, 63, 64, 65, 66, 127, 128, 129, 500} {
		key := uneven(n, 41)
		d := sha256.Sum256([]byte(key))
		if got, want := mac.Of(key, "text") == mac.Of(string(d[:]), "text"), n > 64; got != want {
			t.Errorf("%d bytes: by its digest %v, want %v", n, got, want)
		}
	}
}

// P4.1: every bit of the key, and of the text, counts.
func TestEveryBitCounts(t *testing.T) {
	for _, n := range []int{1, 31, 64, 65, 130} {
		bytes := uneven(n, 7)
		byKey, byText := mac.Of(bytes, "text"), mac.Of("key", bytes)
		for i := range 8 * n {
			other := []byte(bytes)
			other[i/8] ^= 1 << (i % 8)
			if mac.Of(string(other), "text") == byKey {
				t.Errorf("a key of %d bytes: bit %d plays no part", n, i)
			}
			if mac.Of("key", string(other)) == byText {
				t.Errorf("%d bytes: bit %d plays no part", n, i)
			}
		}
	}
}

// P4.1: no texts at all are no bytes, as nil is, and texts without bytes are; the key counts all the same.
func TestNoTexts(t *testing.T) {
	for name, key := range keys() {
		want := byLibrary(key, "")
		if got := mac.Of(key); got != want {
			t.Errorf("key %s: %x, want %x", name, got, want)
		}
		for _, list := range [][]string{nil, {}, {""}, {"", "", ""}, make([]string, 100)} {
			if got := mac.Of(key, list...); got != want {
				t.Errorf("key %s, %d texts without bytes: %x, want %x", name, len(list), got, want)
			}
		}
	}
}

// P4.1: the same bytes cut in every two places, with texts without bytes among them.
func TestCuts(t *testing.T) {
	for _, key := range []string{"", "key", uneven(64, 3), uneven(65, 3)} {
		for _, n := range []int{0, 1, 3, 55, 64, 65, 130} {
			text := uneven(n, 19)
			want := byLibrary(key, text)
			for i := range n + 1 {
				for j := i; j <= n; j++ {
					if got := mac.Of(key, "", text[:i], "", text[i:j], text[j:], ""); got != want {
						t.Fatalf("%d bytes, cut at %d and %d: %x, want %x", n, i, j, got, want)
					}
				}
			}
		}
	}
}

// P4.1: cut into pieces of one length, which are many.
func TestPieces(t *testing.T) {
	text := uneven(700, 23)
	want := byLibrary("key", text)
	for _, piece := range []int{1, 2, 3, 7, 32, 63, 64, 65, 128, 699, 700, 5000} {
		var list []string
		for part := range slices.Chunk([]byte(text), piece) {
			list = append(list, string(part))
		}
		if got := mac.Of("key", list...); got != want {
			t.Errorf("%d a piece: %x, want %x", piece, got, want)
		}
	}
}

// P4.1: the texts' order counts, each of them does, and what is the key's isn't the text's.
func TestOrderCounts(t *testing.T) {
	if mac.Of("k", "a", "b") == mac.Of("k", "b", "a") || mac.Of("k", "a", "b") == mac.Of("k", "a") || mac.Of("k", "a", "b") == mac.Of("k", "b") {
		t.Error("a text, or the texts' order, plays no part")
	}
	if mac.Of("ab", "c") == mac.Of("a", "bc") || mac.Of("", "abc") == mac.Of("abc", "") || mac.Of("a", "b") == mac.Of("b", "a") {
		t.Error("where the key ends plays no part")
	}
}

// P4.1: a list with spare room is left as it is, that room included, and plays no part.
func TestListIsLeft(t *testing.T) {
	room := []string{"ab", "", "c", "spare", "room"}
	if got, want := mac.Of("key", room[:3]...), byLibrary("key", "abc"); got != want {
		t.Errorf("%x, want %x", got, want)
	}
	if !slices.Equal(room, []string{"ab", "", "c", "spare", "room"}) {
		t.Errorf("the list is changed: %q", room)
	}
}

// P4.1: tags are values: changing one plays no part in another, nor does what was asked ahead of it.
func TestTagsAreTheirOwn(t *testing.T) {
	one := mac.Of("key", "abc")
	mac.Of(uneven(1000, 1), uneven(1000, 2))
	other := mac.Of("key", "abc")
	if one != other {
		t.Errorf("%x, and then %x", one, other)
	}
	other[0]++
	if one == other || one != mac.Of("key", "abc") {
		t.Error("two tags share memory")
	}
}

// all is a tag of which all bytes are the same.
func all(b byte) api.Tag {
	var tag api.Tag
	for i := range tag {
		tag[i] = b
	}
	return tag
}

// some are n tags, no two the same.
func some(n int) []api.Tag {
	var out []api.Tag
	for i := range n {
		out = append(out, byLibrary("key", uneven(i, i)))
	}
	return out
}

// P4.1: Join of none, of one, and of all bytes 0 and 255.
func TestJoin(t *testing.T) {
	a := api.Tag{0x01, 0x23, 0x45, 0x67, 0x89, 0xab, 0xcd, 0xef, 0, 255, 0x0f, 0xf0, 0x55, 0xaa, 0x80, 0x01}
	b := api.Tag{0xff, 0xff, 0x0f, 0xf0, 0x89, 0x54, 0x01, 0x10, 0, 255, 0xf0, 0xf0, 0xaa, 0xaa, 0x01, 0x80}
	ab := api.Tag{0xfe, 0xdc, 0x4a, 0x97, 0x00, 0xff, 0xcc, 0xff, 0, 0, 0xff, 0x00, 0xff, 0x00, 0x81, 0x81}
	notA := api.Tag{0xfe, 0xdc, 0xba, 0x98, 0x76, 0x54, 0x32, 0x10, 255, 0, 0xf0, 0x0f, 0xaa, 0x55, 0x7f, 0xfe}
	for i, c := range []struct {
		list []api.Tag
		want api.Tag
	}{
		{nil, api.Tag{}},
		{[]api.Tag{}, api.Tag{}},
		{[]api.Tag{{}}, api.Tag{}},
		{[]api.Tag{{}, {}}, api.Tag{}},
		{[]api.Tag{a}, a},
		{[]api.Tag{all(255)}, all(255)},
		{[]api.Tag{a, b}, ab},
		{[]api.Tag{a, {}}, a},
		{[]api.Tag{{}, a}, a},
		{[]api.Tag{a, all(255)}, notA},
		{[]api.Tag{all(255), {}}, all(255)},
		{[]api.Tag{all(255), all(255)}, api.Tag{}},
		{[]api.Tag{all(255), all(255), all(255)}, all(255)},
		{[]api.Tag{all(255), a, {}, b, all(255)}, ab},
		{[]api.Tag{all(0x0f), all(0xf0), all(0x01)}, all(0xfe)},
	} {
		if got := mac.Join(c.list...); got != c.want {
			t.Errorf("%d: %x, want %x", i, got, c.want)
		}
	}
	if got := mac.Join(); got != (api.Tag{}) {
		t.Errorf("none: %x", got)
	}
}

// P4.1: each of the 128 bits by itself: it is there where one tag of the two has it.
func TestJoinBits(t *testing.T) {
	for i := range 128 {
		var one api.Tag
		one[i/8] = 1 << (i % 8)
		for j := range 128 {
			var other, want api.Tag
			other[j/8] = 1 << (j % 8)
			if i != j {
				want = one
				want[j/8] += other[j/8]
			}
			if got := mac.Join(one, other); got != want {
				t.Errorf("bits %d and %d: %x, want %x", i, j, got, want)
			}
		}
	}
}

// P4.2: all orders of some tags, and a few of many.
func TestJoinOrder(t *testing.T) {
	few := some(5)
	want := mac.Join(few...)
	var orders func(done, left []api.Tag)
	orders = func(done, left []api.Tag) {
		if len(left) == 0 {
			if got := mac.Join(done...); got != want {
				t.Errorf("%x: %x, want %x", done, got, want)
			}
		}
		for i := range left {
			orders(append(slices.Clone(done), left[i]), slices.Delete(slices.Clone(left), i, i+1))
		}
	}
	orders(nil, few)
	many := some(101)
	want = mac.Join(many...)
	for turn := range many {
		other := append(slices.Clone(many[turn:]), many[:turn]...)
		back := slices.Clone(other)
		slices.Reverse(back)
		if mac.Join(other...) != want || mac.Join(back...) != want {
			t.Errorf("turned by %d: %x, and back %x, want %x", turn, mac.Join(other...), mac.Join(back...), want)
		}
	}
}

// P4.2: joined by parts, in whatever parts, it is the same.
func TestJoinParts(t *testing.T) {
	many := some(30)
	want := mac.Join(many...)
	for i := range len(many) + 1 {
		if got := mac.Join(mac.Join(many[:i]...), mac.Join(many[i:]...)); got != want {
			t.Errorf("parted at %d: %x, want %x", i, got, want)
		}
	}
}

// P4.2: one that stands there twice counts as none, three times as once, wherever it stands.
func TestJoinTwice(t *testing.T) {
	rest := some(4)
	want := mac.Join(rest...)
	for _, tag := range append(some(12), api.Tag{}, all(255), all(1), all(128)) {
		if mac.Join(tag, tag) != (api.Tag{}) || mac.Join(tag, tag, tag) != tag || mac.Join(tag, tag, tag, tag) != (api.Tag{}) {
			t.Errorf("%x, alone, counts otherwise", tag)
		}
		for i := range len(rest) + 1 {
			for j := i; j <= len(rest); j++ {
				twice := slices.Insert(slices.Insert(slices.Clone(rest), j, tag), i, tag)
				if got := mac.Join(twice...); got != want {
					t.Errorf("%x twice, at %d and behind %d: %x, want %x", tag, i, j, got, want)
				}
				thrice := append(slices.Clone(twice), tag)
				if got, once := mac.Join(thrice...), mac.Join(append(slices.Clone(rest), tag)...); got != once {
					t.Errorf("%x three times, at %d and behind %d: %x, want %x", tag, i, j, got, once)
				}
			}
		}
	}
}

// P4.2: every one of them twice is none at all, and without one of them it is that one.
func TestJoinAllTwice(t *testing.T) {
	many := some(40)
	if got := mac.Join(append(slices.Clone(many), many...)...); got != (api.Tag{}) {
		t.Errorf("all twice: %x", got)
	}
	whole := mac.Join(many...)
	for i, tag := range many {
		left := slices.Delete(slices.Clone(many), i, i+1)
		if got := mac.Join(append(left, whole)...); got != tag {
			t.Errorf("without %d: %x, want %x", i, got, tag)
		}
	}
}

// P4.2: a list with spare room is left as it is, that room included, and plays no part.
func TestJoinListIsLeft(t *testing.T) {
	room := some(6)
	was := slices.Clone(room)
	want := mac.Join(was[0], was[1], was[2])
	got := mac.Join(room[:3]...)
	if got != want {
		t.Errorf("%x, want %x", got, want)
	}
	got[0]++
	one := mac.Join(room[:1]...)
	one[0]++
	if !slices.Equal(room, was) {
		t.Error("the list is changed, or an answer shares its memory")
	}
}
