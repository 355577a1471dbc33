package wire_test

import (
	"crypto/sha256"
	"encoding/binary"
	"encoding/hex"
	"math"
	"math/rand"
	"slices"
	"strings"
	"testing"

	"toller/api"
	"toller/wire"
)

const (
	maxSlot   = 1 << 30
	maxMember = 65535
)

// target and tag have no two bytes that are the same, so that one in the wrong place is told.
func target() api.Root {
	var r api.Root
	for i := range r {
		r[i] = byte(i*7 + 1)
	}
	return r
}

func tag() api.Tag {
	var x api.Tag
	for i := range x {
		x[i] = byte(i*13 + 5)
	}
	return x
}

// The bytes of target and tag, and of such whose bytes are all 255, or all 0, written out.
const (
	targetBytes = "\x01\x08\x0f\x16\x1d\x24\x2b\x32\x39\x40\x47\x4e\x55\x5c\x63\x6a\x71\x78\x7f\x86\x8d\x94\x9b\xa2\xa9\xb0\xb7\xbe\xc5\xcc\xd3\xda"
	tagBytes    = "\x05\x12\x1f\x2c\x39\x46\x53\x60\x6d\x7a\x87\x94\xa1\xae\xbb\xc8"
	zero16      = "\x00\x00\x00\x00\x00\x00\x00\x00\x00\x00\x00\x00\x00\x00\x00\x00"
	full16      = "\xff\xff\xff\xff\xff\xff\xff\xff\xff\xff\xff\xff\xff\xff\xff\xff"
)

func fullTarget() api.Root { return api.Root([]byte(full16 + full16)) }
func fullTag() api.Tag     { return api.Tag([]byte(full16)) }

// row reads a row from a text: y for yes, any other for no.
func row(text string) []bool {
	list := make([]bool, len(text))
	for i := range list {
		list[i] = text[i] == 'y'
	}
	return list
}

func block(slot, member int, body uint64) api.Message {
	return api.Message{Kind: api.KindBlock, Slot: slot, Target: target(), Member: member, Body: body, Tag: tag()}
}

func vote(slot, member int) api.Message {
	return api.Message{Kind: api.KindVote, Slot: slot, Target: target(), Member: member, Tag: tag()}
}

func sum(slot int, text string) api.Message {
	return api.Message{Kind: api.KindSum, Slot: slot, Target: target(), Bits: row(text), Tag: tag()}
}

// with is a message with one thing changed.
func with(m api.Message, change func(*api.Message)) api.Message {
	change(&m)
	return m
}

// same answers whether two messages are, lists element by element.
func same(a, b api.Message) bool {
	return a.Kind == b.Kind && a.Slot == b.Slot && a.Target == b.Target && a.Member == b.Member && a.Body == b.Body && slices.Equal(a.Bits, b.Bits) && a.Tag == b.Tag
}

// none answers whether a message is empty.
func none(m api.Message) bool { return same(m, api.Message{}) }

// canBe answers whether a message can be, by the chapter's words.
func canBe(m api.Message) bool {
	yes := 0
	for _, b := range m.Bits {
		if b {
			yes++
		}
	}
	slot := m.Slot >= 0 && m.Slot <= maxSlot
	member := m.Member >= 0 && m.Member <= maxMember
	one := (m.Kind == 1 || m.Kind == 2) && len(m.Bits) == 0
	several := m.Kind == 3 && m.Member == 0 && len(m.Bits) >= 1 && len(m.Bits) <= 16 && yes >= 1
	body := m.Kind == 1 || m.Body == 0
	return slot && member && (one || several) && body
}

// plainOf is the plain bytes of a message that can be, by the chapter's words.
func plainOf(m api.Message) string {
	b := binary.LittleEndian.AppendUint32([]byte{byte(m.Kind)}, uint32(m.Slot))
	b = append(b, m.Target[:]...)
	if m.Kind != 3 {
		b = binary.LittleEndian.AppendUint16(b, uint16(m.Member))
	}
	if m.Kind == 1 {
		b = binary.LittleEndian.AppendUint64(b, m.Body)
	}
	if m.Kind == 3 {
		n := uint32(1) << len(m.Bits)
		for i, yes := range m.Bits {
			if yes {
				n += 1 << i
			}
		}
		b = append(b, binary.LittleEndian.AppendUint32(nil, n)[:len(m.Bits)/8+1]...)
	}
	return string(b)
}

func bytesOf(m api.Message) string { return plainOf(m) + string(m.Tag[:]) }

// messageOf is the message of bytes, told by how many they are, and their places.
func messageOf(s string) (api.Message, bool) {
	n := len(s)
	if n < 54 || n > 63 {
		return api.Message{}, false
	}
	m := api.Message{Kind: int(s[0]), Slot: int(binary.LittleEndian.Uint32([]byte(s[1:5])))}
	m.Target, m.Tag = api.Root([]byte(s[5:37])), api.Tag([]byte(s[n-16:]))
	switch {
	case m.Kind == 1 && n == 63:
		m.Member, m.Body = int(s[37])+int(s[38])*256, binary.LittleEndian.Uint64([]byte(s[39:47]))
	case m.Kind == 2 && n == 55:
		m.Member = int(s[37]) + int(s[38])*256
	case m.Kind == 3 && n <= 56 && s[n-17] != 0:
		for _, b := range []byte(s[37 : n-16]) {
			for range 8 {
				m.Bits = append(m.Bits, b%2 == 1)
				b /= 2
			}
		}
		for !m.Bits[len(m.Bits)-1] {
			m.Bits = m.Bits[:len(m.Bits)-1]
		}
		m.Bits = m.Bits[:len(m.Bits)-1]
	default:
		return api.Message{}, false
	}
	if !canBe(m) {
		return api.Message{}, false
	}
	return m, true
}

// written are messages with their plain bytes written out.
func written() []struct {
	m     api.Message
	plain string
} {
	return []struct {
		m     api.Message
		plain string
	}{
		{block(258, 3, 9), "\x01\x02\x01\x00\x00" + targetBytes + "\x03\x00\x09\x00\x00\x00\x00\x00\x00\x00"},
		{block(0, 0, 0), "\x01\x00\x00\x00\x00" + targetBytes + "\x00\x00\x00\x00\x00\x00\x00\x00\x00\x00"},
		{block(0x01020304, 0x0506, 0x0708090a0b0c0d0e), "\x01\x04\x03\x02\x01" + targetBytes + "\x06\x05\x0e\x0d\x0c\x0b\x0a\x09\x08\x07"},
		{block(maxSlot, maxMember, math.MaxUint64), "\x01\x00\x00\x00\x40" + targetBytes + "\xff\xff\xff\xff\xff\xff\xff\xff\xff\xff"},
		{block(maxSlot-1, maxMember-1, math.MaxUint64-1), "\x01\xff\xff\xff\x3f" + targetBytes + "\xfe\xff\xfe\xff\xff\xff\xff\xff\xff\xff"},
		{block(1, 1, 1), "\x01\x01\x00\x00\x00" + targetBytes + "\x01\x00\x01\x00\x00\x00\x00\x00\x00\x00"},
		{vote(258, 3), "\x02\x02\x01\x00\x00" + targetBytes + "\x03\x00"},
		{vote(0, 0), "\x02\x00\x00\x00\x00" + targetBytes + "\x00\x00"},
		{vote(0x01020304, 0x0506), "\x02\x04\x03\x02\x01" + targetBytes + "\x06\x05"},
		{vote(maxSlot, maxMember), "\x02\x00\x00\x00\x40" + targetBytes + "\xff\xff"},
		{vote(maxSlot-1, 256), "\x02\xff\xff\xff\x3f" + targetBytes + "\x00\x01"},
		{sum(258, "yny"), "\x03\x02\x01\x00\x00" + targetBytes + "\x0d"},
		{sum(0, "y"), "\x03\x00\x00\x00\x00" + targetBytes + "\x03"},
		{sum(1, "ny"), "\x03\x01\x00\x00\x00" + targetBytes + "\x06"},
		{sum(1, "yn"), "\x03\x01\x00\x00\x00" + targetBytes + "\x05"},
		{sum(0x01020304, "yyyyyyy"), "\x03\x04\x03\x02\x01" + targetBytes + "\xff"},
		{sum(maxSlot-1, "nnnnnnny"), "\x03\xff\xff\xff\x3f" + targetBytes + "\x80\x01"},
		{sum(3, "ynnnnnnnn"), "\x03\x03\x00\x00\x00" + targetBytes + "\x01\x02"},
		{sum(3, "nnnnnnnny"), "\x03\x03\x00\x00\x00" + targetBytes + "\x00\x03"},
		{sum(3, "ynynynynynynyny"), "\x03\x03\x00\x00\x00" + targetBytes + "\x55\xd5"},
		{sum(maxSlot, "yyyyyyyyyyyyyyyy"), "\x03\x00\x00\x00\x40" + targetBytes + "\xff\xff\x01"},
		{sum(3, "nnnnnnnnnnnnnnny"), "\x03\x03\x00\x00\x00" + targetBytes + "\x00\x80\x01"},
	}
}

// good are messages that can be: those written out, each also with other targets and tags.
func good() []api.Message {
	var out []api.Message
	for _, c := range written() {
		out = append(out, c.m,
			with(c.m, func(m *api.Message) { m.Target, m.Tag = api.Root{}, api.Tag{} }),
			with(c.m, func(m *api.Message) { m.Target, m.Tag = fullTarget(), fullTag() }),
			with(c.m, func(m *api.Message) { m.Tag = api.Tag{1: 3, 15: 1} }))
	}
	return out
}

// ordinary is one message of each kind.
func ordinary() []api.Message {
	return []api.Message{block(258, 3, 9), vote(7, 513), sum(5, "yny")}
}

// wantGood holds all calls against a message that can be, and its plain bytes.
func wantGood(t *testing.T, m api.Message, plain string) {
	t.Helper()
	want := plain + string(m.Tag[:])
	if !wire.Good(m) {
		t.Errorf("%v can be", m)
	}
	if got := wire.Plain(m); got != plain {
		t.Errorf("%v: plain %x, want %x", m, got, plain)
	}
	if got, ok := wire.Encode(m); !ok || got != want {
		t.Errorf("%v: %x, %v, want %x", m, got, ok, want)
	}
	if got, ok := wire.Decode(want); !ok || !same(got, m) {
		t.Errorf("%x: %v, %v, want %v", want, got, ok, m)
	}
	if got := wire.Root(m); got != sha256.Sum256([]byte(want)) {
		t.Errorf("%v: its name is %x", m, got)
	}
}

// wantBad holds Good and Encode against a message that can't be; the other calls must end.
func wantBad(t *testing.T, m api.Message) {
	t.Helper()
	if wire.Good(m) {
		t.Errorf("%v can't be", m)
	}
	if got, ok := wire.Encode(m); ok || got != "" {
		t.Errorf("%v, which can't be: %x, %v", m, got, ok)
	}
	wire.Plain(m)
	wire.Root(m)
}

// wantEither holds all calls against what the chapter says of a message.
func wantEither(t *testing.T, m api.Message) {
	t.Helper()
	if canBe(m) {
		wantGood(t, m, plainOf(m))
	} else {
		wantBad(t, m)
	}
}

// wantNone holds Decode against bytes that are no message's.
func wantNone(t *testing.T, s string) {
	t.Helper()
	if m, ok := wire.Decode(s); ok || !none(m) {
		t.Errorf("%x, no message's: %v, %v", s, m, ok)
	}
}

// wantDecoded holds Decode against what the chapter says of any bytes; such as are decoded are encoded to the same.
func wantDecoded(t *testing.T, s string) {
	t.Helper()
	want, wantOK := messageOf(s)
	got, ok := wire.Decode(s)
	if ok != wantOK || !same(got, want) {
		t.Errorf("%x: %v, %v, want %v, %v", s, got, ok, want, wantOK)
	}
	if !ok {
		return
	}
	if again, ok := wire.Encode(got); !ok || again != s {
		t.Errorf("%x is decoded to %v, and that encoded to %x, %v", s, got, again, ok)
	}
}

// P7.1: the chapter's example: a block has 63 bytes, a vote 55, whatever they hold.
func TestExample(t *testing.T) {
	for _, m := range good() {
		want := map[int]int{api.KindBlock: 63, api.KindVote: 55, api.KindSum: 53 + len(m.Bits)/8 + 1}[m.Kind]
		if s, ok := wire.Encode(m); !ok || len(s) != want || len(wire.Plain(m)) != want-16 {
			t.Errorf("%v: %d bytes, %d plain, %v", m, len(s), len(wire.Plain(m)), ok)
		}
	}
}

// P7.1: ordinary messages, and such at the edges, their bytes written out.
func TestWritten(t *testing.T) {
	for _, c := range written() {
		wantGood(t, c.m, c.plain)
		if got, ok := wire.Encode(c.m); !ok || got != c.plain+tagBytes {
			t.Errorf("%v: %x, want %x", c.m, got, c.plain+tagBytes)
		}
		c.m.Tag = api.Tag{}
		wantGood(t, c.m, c.plain)
	}
	empty := api.Message{Kind: api.KindVote}
	if got, ok := wire.Encode(empty); !ok || got != "\x02"+zero16+zero16+zero16+"\x00\x00\x00\x00\x00\x00" {
		t.Errorf("a vote of zeros: %x, %v", got, ok)
	}
}

// P7.1: of a slot and a member the least and the greatest, and one less and one more; some of those that can't be would be others if only their lower bytes were taken.
func TestNumbers(t *testing.T) {
	slots := []struct {
		n  int
		ok bool
	}{
		{0, true}, {1, true}, {255, true}, {256, true}, {65536, true}, {1 << 24, true}, {maxSlot - 1, true}, {maxSlot, true},
		{-1, false}, {-2, false}, {-maxSlot, false}, {math.MinInt32, false}, {-1 << 32, false}, {math.MinInt + 1, false}, {math.MinInt, false},
		{maxSlot + 1, false}, {2 * maxSlot, false}, {math.MaxInt32, false}, {math.MaxUint32, false}, {1 << 32, false}, {1<<32 + 5, false}, {1 << 62, false}, {math.MaxInt - 1, false}, {math.MaxInt, false},
	}
	members := []struct {
		n  int
		ok bool
	}{
		{0, true}, {1, true}, {63, true}, {64, true}, {255, true}, {256, true}, {maxMember - 1, true}, {maxMember, true},
		{-1, false}, {-2, false}, {-65536, false}, {math.MinInt32, false}, {-1 << 32, false}, {math.MinInt + 1, false}, {math.MinInt, false},
		{maxMember + 1, false}, {maxMember + 2, false}, {1 << 17, false}, {1 << 32, false}, {1<<32 + 1, false}, {1 << 62, false}, {math.MaxInt - 1, false}, {math.MaxInt, false},
	}
	for _, m := range ordinary() {
		for _, slot := range slots {
			m.Slot = slot.n
			if got := wire.Good(m); got != slot.ok {
				t.Errorf("%v: can be %v", m, got)
			}
			wantEither(t, m)
			for _, member := range members {
				x := with(m, func(m *api.Message) { m.Member = member.n })
				want := slot.ok && member.ok && (m.Kind != api.KindSum || member.n == 0)
				if got := wire.Good(x); got != want {
					t.Errorf("%v: can be %v", x, got)
				}
				wantEither(t, x)
			}
		}
	}
}

// P7.1: kinds that are none, also such whose lowest byte is one.
func TestKinds(t *testing.T) {
	for _, m := range append(good(), api.Message{}) {
		for _, kind := range []int{0, 4, 5, 255, -1, -2, -3, -255, -254, -253, 256, 257, 258, 259, 65537, 1<<32 + 1, 1<<32 + 2, 1<<32 + 3, math.MaxInt, math.MinInt, math.MinInt + 1} {
			m.Kind = kind
			wantBad(t, m)
		}
	}
	for kind := -300; kind <= 600; kind++ {
		if got, want := wire.Good(api.Message{Kind: kind}), kind == 1 || kind == 2; got != want {
			t.Errorf("kind %d: can be %v", kind, got)
		}
		if got, want := wire.Good(api.Message{Kind: kind, Bits: []bool{true}}), kind == 3; got != want {
			t.Errorf("kind %d, with a row: can be %v", kind, got)
		}
	}
}

// P7.1: a message of one kind isn't one of another, unless all that is asked of that is so.
func TestOtherKinds(t *testing.T) {
	for _, m := range good() {
		for kind := 1; kind <= 3; kind++ {
			m.Kind = kind
			wantEither(t, m)
		}
	}
}

// P7.1: a body, of a block and of others.
func TestBodies(t *testing.T) {
	for _, body := range []uint64{0, 1, 255, 256, 1 << 32, 1 << 56, 1 << 63, math.MaxInt64, math.MaxUint64 - 1, math.MaxUint64} {
		for _, m := range ordinary() {
			m.Body = body
			if got, want := wire.Good(m), m.Kind == api.KindBlock || body == 0; got != want {
				t.Errorf("%v: can be %v", m, got)
			}
			wantEither(t, m)
		}
	}
}

// P7.1: blocks and votes have no row, not even one that says no everywhere; nil and empty mean the same.
func TestRowsOfOthers(t *testing.T) {
	for _, m := range []api.Message{block(258, 3, 9), block(0, 0, 0), vote(7, 513), vote(0, 0)} {
		plain := wire.Plain(m)
		for _, bits := range [][]bool{nil, {}, make([]bool, 0, 9), row("yyy")[:0]} {
			m.Bits = bits
			wantGood(t, m, plain)
		}
		for _, text := range []string{"n", "y", "nn", "yny", "nnnnnnnn", strings.Repeat("n", 16), strings.Repeat("y", 16), strings.Repeat("n", 17), strings.Repeat("y", 1000)} {
			m.Bits = row(text)
			wantBad(t, m)
		}
	}
}

// P7.1: sums of every length around the edges, with yes nowhere, at one place, and everywhere.
func TestRowsOfSums(t *testing.T) {
	for n := range 40 {
		m := sum(9, strings.Repeat("n", n))
		wantBad(t, m)
		for at := range n {
			m.Bits = make([]bool, n)
			m.Bits[at] = true
			if got := wire.Good(m); got != (n <= 16) {
				t.Errorf("%d bits, yes at %d: can be %v", n, at, got)
			}
			wantEither(t, m)
		}
		m = sum(9, strings.Repeat("y", n))
		if got := wire.Good(m); got != (n >= 1 && n <= 16) {
			t.Errorf("%d bits, all yes: can be %v", n, got)
		}
		wantEither(t, m)
	}
	for _, n := range []int{256, 257, 4096, 1 << 16} {
		wantBad(t, sum(9, strings.Repeat("y", n)))
	}
	wantBad(t, with(sum(9, ""), func(m *api.Message) { m.Bits = nil }))
}

// P7.1: each row that a sum can have.
func TestAllRows(t *testing.T) {
	for n := 1; n <= 16; n++ {
		m := sum(maxSlot, strings.Repeat("n", n))
		for pattern := 1; pattern < 1<<n; pattern++ {
			for i := range m.Bits {
				m.Bits[i] = pattern>>i&1 == 1
			}
			s, ok := wire.Encode(m)
			if !ok || s != bytesOf(m) {
				t.Fatalf("%v: %x, %v", m, s, ok)
			}
			if got, ok := wire.Decode(s); !ok || !same(got, m) {
				t.Fatalf("%x: %v, %v, want %v", s, got, ok, m)
			}
		}
	}
}

// P7.1: of a sum Member is 0 and Body is 0, of all rows.
func TestSumsSpeakForNobodyElse(t *testing.T) {
	for _, text := range []string{"y", "yny", strings.Repeat("y", 16)} {
		m := sum(3, text)
		for _, member := range []int{1, 2, 255, 256, maxMember, maxMember + 1, -1} {
			m.Member = member
			wantBad(t, m)
		}
		m.Member = 0
		m.Body = 1
		wantBad(t, m)
	}
}

// P7.1: names, by digests worked out apart from the program.
func TestNames(t *testing.T) {
	for _, c := range []struct {
		m    api.Message
		want string
	}{
		{api.Message{Kind: api.KindBlock}, "3fc540f89988dec85df3f30cb3489616a73ac5c128ab38b4b6ed209893f6ab54"},
		{block(258, 3, 9), "42ce6f098128b218b6980dd862df11d37e8eddcb78ff14cd727a25ee311180b6"},
		{api.Message{Kind: api.KindBlock, Slot: maxSlot, Target: fullTarget(), Member: maxMember, Body: math.MaxUint64, Tag: fullTag()}, "f500403afc8ef3edf323ff5365bd03844f465afce8969f957f5a5a3aa862465b"},
		{api.Message{Kind: api.KindVote}, "b3aab9c719dd1249e276296d4da51f1a11322c28aae17370a620a8b01c35f4b1"},
		{vote(7, 513), "8dd16ba83bb6e23c4d0053a1f0a5ae4572b05de0d7211d0ee4f5a7782a315285"},
		{api.Message{Kind: api.KindVote, Slot: maxSlot, Target: fullTarget(), Member: maxMember, Tag: fullTag()}, "b07d33a6043963e595012face585ae99cdf3d12952d9ba5e5592326afc0dfbde"},
		{api.Message{Kind: api.KindSum, Bits: []bool{true}}, "47fa31e05581e6dc5352088ae5328cf740ebe2c35dc3bf5e43421f036b2f29aa"},
		{sum(0x01020304, "yny"), "53af810d31c6aaab2c02071ec32b196e28ec239b672cb063db67cdad79519aad"},
		{api.Message{Kind: api.KindSum, Slot: maxSlot, Target: fullTarget(), Bits: row(strings.Repeat("y", 16)), Tag: fullTag()}, "3268f392b9fa37c9b27391d89ea74a7d1d4125d1504333f552f84ecc027d89ec"},
		{sum(5, "nnnnnnny"), "fd047856c943bc0f47878458ffc9cb805e3dae7b7ad45405760caf1b2a917824"},
	} {
		if got := wire.Root(c.m); hex.EncodeToString(got[:]) != c.want {
			t.Errorf("%v: its name is %x, want %s", c.m, got, c.want)
		}
	}
}

// P7.1: the tag plays no part in the plain bytes, and a part in the bytes and the name.
func TestTags(t *testing.T) {
	for _, m := range good() {
		plain, name := wire.Plain(m), wire.Root(m)
		s, _ := wire.Encode(m)
		for i := range m.Tag {
			other := with(m, func(m *api.Message) { m.Tag[i] ^= 0x81 })
			if wire.Plain(other) != plain {
				t.Errorf("%v: byte %d of the tag plays a part in its plain bytes", m, i)
			}
			changed := []byte(s)
			changed[len(plain)+i] ^= 0x81
			if got, ok := wire.Encode(other); !ok || got != string(changed) || wire.Root(other) == name {
				t.Errorf("%v: byte %d of the tag: %x, %v", m, i, got, ok)
			}
		}
	}
}

// P7.1: bytes that are cut anywhere, ahead and behind.
func TestCut(t *testing.T) {
	for _, m := range good() {
		s, _ := wire.Encode(m)
		for n := range len(s) {
			// What is cut of a long row's sum may be another sum, with another tag.
			if len(m.Bits) < 8 {
				wantNone(t, s[:n])
			}
			wantDecoded(t, s[:n])
			wantDecoded(t, s[n:])
			wantDecoded(t, s[:n]+s[n+1:])
			wantDecoded(t, s[:n]+"\x01"+s[n:])
		}
	}
	wantNone(t, "")
}

// P7.1: bytes of each kind that are too few, or too many, whatever they are.
func TestLengths(t *testing.T) {
	for kind := range 6 {
		for n := range 300 {
			for _, fill := range []string{"\x00", "\x01", "\x02", "\x03", "\x3f", "\xff"} {
				wantDecoded(t, string([]byte{byte(kind), 1, 2, 3, 4})+strings.Repeat(fill, n))
			}
		}
	}
	for n := range 300 {
		for _, fill := range []string{"\x00", "\x01", "\x02", "\x03", "\xff"} {
			wantDecoded(t, strings.Repeat(fill, n))
		}
	}
	for _, m := range ordinary() {
		s, _ := wire.Encode(m)
		wantNone(t, s+strings.Repeat("\x01", 1<<20))
		wantNone(t, strings.Repeat(s, 2))
		wantNone(t, strings.Repeat(s, 1000))
	}
}

// P7.1: bytes with more behind them: no block's and no vote's; of a sum the row goes on, and the last 16 bytes are the tag.
func TestMoreBehind(t *testing.T) {
	for _, m := range good() {
		s, _ := wire.Encode(m)
		for _, more := range []string{"\x00", "\x01", "\x03", "\xff", "\x00\x00", "\x00\x01", zero16, full16, tagBytes, "\x00\x00\x00\x00\x00\x00\x00\x00"} {
			if m.Kind != api.KindSum {
				wantNone(t, s+more)
			}
			wantDecoded(t, s+more)
			wantDecoded(t, more+s)
		}
	}
	want := with(sum(5, "ynyynnnny"), func(m *api.Message) { m.Tag = api.Tag([]byte(tagBytes[1:] + "\x09")) })
	s := "\x03\x05\x00\x00\x00" + targetBytes + "\x0d" + "\x03" + tagBytes[1:] + "\x09"
	if got, ok := wire.Decode(s); !ok || !same(got, want) {
		t.Errorf("%x: %v, %v, want %v", s, got, ok, want)
	}
}

// P7.1: a first byte that is no kind, or another one's.
func TestFirstByte(t *testing.T) {
	for _, m := range good() {
		s, _ := wire.Encode(m)
		for first := range 256 {
			x := string([]byte{byte(first)}) + s[1:]
			if first < 1 || first > 3 {
				wantNone(t, x)
			}
			wantDecoded(t, x)
		}
	}
}

// P7.1: a slot above MaxSlot has bytes, but no message.
func TestSlotsOfBytes(t *testing.T) {
	for _, m := range good() {
		s, _ := wire.Encode(m)
		for _, c := range []struct {
			slot string
			ok   bool
		}{
			{"\x00\x00\x00\x00", true}, {"\xff\xff\xff\x3f", true}, {"\x00\x00\x00\x40", true},
			{"\x01\x00\x00\x40", false}, {"\x00\x01\x00\x40", false}, {"\x00\x00\x01\x40", false}, {"\x00\x00\x00\x41", false},
			{"\x00\x00\x00\x80", false}, {"\xff\xff\xff\x7f", false}, {"\xff\xff\xff\xff", false}, {"\x00\x00\x00\xc0", false},
		} {
			x := s[:1] + c.slot + s[5:]
			if _, ok := wire.Decode(x); ok != c.ok {
				t.Errorf("%x: %v", x, ok)
			}
			wantDecoded(t, x)
		}
	}
}

// P7.1: rows that have no form, say yes nowhere, or are too long, ahead of a tag.
func TestRowsOfBytes(t *testing.T) {
	head := "\x03\x05\x00\x00\x00" + targetBytes
	for _, row := range []string{
		"", "\x00", "\x00\x00", "\x00\x00\x00", "\x03\x00", "\x0d\x00", "\xff\xff\x00", "\xff\xff\x01\x00",
		"\x01", "\x02", "\x04", "\x40", "\x80", "\x00\x01", "\x00\x02", "\x00\x80", "\x00\x00\x01",
		"\xff\xff\x02", "\xff\xff\x03", "\x00\x00\x03", "\x01\x00\x02", "\x01\x00\x80", "\xff\xff\xff",
		"\xff\xff\x00\x01", "\x01\x00\x00\x01", zero16 + "\x03", full16 + "\x01", strings.Repeat("\xff", 1000),
	} {
		for _, end := range []string{tagBytes, zero16, full16} {
			wantNone(t, head+row+end)
		}
	}
	for first := range 256 {
		wantDecoded(t, head+string([]byte{byte(first)})+tagBytes)
		for second := range 256 {
			wantDecoded(t, head+string([]byte{byte(first), byte(second)})+tagBytes)
			for _, third := range []byte{0, 1, 2, 3, 128} {
				wantDecoded(t, head+string([]byte{byte(first), byte(second), third})+tagBytes)
			}
		}
	}
}

// P7.2: what is encoded is decoded to the same, and is no other message's.
func TestEncodedIsDecoded(t *testing.T) {
	seen := map[string]api.Message{}
	for _, m := range good() {
		s, ok := wire.Encode(m)
		if !ok {
			t.Fatalf("%v can be", m)
		}
		if got, ok := wire.Decode(s); !ok || !same(got, m) {
			t.Errorf("%v is decoded to %v, %v", m, got, ok)
		}
		if other, ok := seen[s]; ok && !same(other, m) {
			t.Errorf("%v and %v have the same bytes", other, m)
		}
		seen[s] = m
	}
}

// P7.2: each byte, changed to each other one, is another message's, or none's.
func TestEveryByteCounts(t *testing.T) {
	for _, m := range good() {
		s, _ := wire.Encode(m)
		for i := range len(s) {
			for b := range 256 {
				if byte(b) == s[i] {
					continue
				}
				x := s[:i] + string([]byte{byte(b)}) + s[i+1:]
				if got, ok := wire.Decode(x); ok && same(got, m) {
					t.Errorf("%x and %x are the same message's", s, x)
				}
				wantDecoded(t, x)
			}
		}
	}
}

// P7.2: any bytes: such as are decoded are encoded to the same, and any messages: such as are encoded are decoded to the same.
func TestAny(t *testing.T) {
	r := rand.New(rand.NewSource(7))
	for range 20000 {
		b := make([]byte, r.Intn(70))
		r.Read(b)
		if len(b) > 4 {
			b[0], b[4] = b[0]%5, b[4]%66
		}
		wantDecoded(t, string(b))
		m := api.Message{Kind: r.Intn(5), Slot: r.Intn(maxSlot + 1), Member: r.Intn(maxMember + 1)}
		if m.Kind == api.KindBlock || r.Intn(4) == 0 {
			m.Body = r.Uint64()
		}
		if m.Kind == api.KindSum || r.Intn(4) == 0 {
			m.Member *= r.Intn(2)
			m.Bits = make([]bool, r.Intn(19))
			for i := range m.Bits {
				m.Bits[i] = r.Intn(4) == 0
			}
		}
		r.Read(m.Target[:])
		r.Read(m.Tag[:])
		wantEither(t, m)
	}
}

// P7.1: what is handed in is left as it was, spare room included, and no answer shares memory with it or another one.
func TestNothingIsShared(t *testing.T) {
	room := row("ynynnyyn")
	was := slices.Clone(room)
	m := sum(5, "")
	m.Bits = room[:3]
	wire.Good(m)
	wire.Plain(m)
	wire.Root(m)
	s, ok := wire.Encode(m)
	if !ok || !slices.Equal(room, was) || !same(m, sum(5, "yny")) {
		t.Fatalf("what was handed in is changed: %v, %v", m, room)
	}
	one, _ := wire.Decode(s)
	other, _ := wire.Decode(s)
	clear(one.Bits[:cap(one.Bits)])
	one.Target[0]++
	one.Tag[0]++
	if again, _ := wire.Decode(s); !same(other, sum(5, "yny")) || !same(again, other) || !slices.Equal(room, was) {
		t.Errorf("messages that are decoded share memory: %v, %v, %v", other, again, room)
	}
	room[0] = false
	if again, _ := wire.Decode(s); !same(again, other) {
		t.Error("bytes hang on a row that was handed in")
	}
}

// P7.1: what is answered hangs on the arguments alone, not on what was asked ahead of it.
func TestCallsKnowNothingOfOneAnother(t *testing.T) {
	for _, a := range good() {
		name, plain := wire.Root(a), wire.Plain(a)
		for _, b := range ordinary() {
			s, _ := wire.Encode(b)
			wire.Decode(s)
			wire.Decode(s[1:])
			if wire.Root(a) != name || wire.Plain(a) != plain {
				t.Errorf("%v is told otherwise behind %v", a, b)
			}
		}
	}
}
