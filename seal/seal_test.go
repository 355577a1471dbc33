package seal_test

import (
	"bytes"
	"crypto/hmac"
	"crypto/sha256"
	"encoding/binary"
	"encoding/hex"
	"math"
	"math/rand"
	"reflect"
	"slices"
	"strings"
	"testing"

	"toller/api"
	"toller/genesis"
	"toller/mac"
	"toller/seal"
	"toller/wire"
)

const (
	maxSlot   = 1 << 30
	maxMember = 65535
)

// with is a configuration of n validators, each with a key of its own, size of them in a committee, that can be.
func with(t *testing.T, n, size int) api.Config {
	t.Helper()
	c := api.Config{Epoch: 4, Committee: size, Nodes: 9, Orphans: 3, Early: 4, Quota: 2, Peers: 5, Bytes: 100, Window: 6, Ban: 10, Decay: 1}
	for i := range n {
		c.Validators = append(c.Validators, api.Validator{Stake: i * 10, Key: strings.Repeat(string([]byte{byte(i + 1)}), i%32+1)})
	}
	return can(t, c)
}

// can holds a test to configurations of which something is promised.
func can(t *testing.T, c api.Config) api.Config {
	t.Helper()
	if !genesis.Good(c) {
		t.Fatalf("%#v can't be", c)
	}
	return c
}

// otherKeys is a configuration in which those of whom which answers true have other keys.
func otherKeys(t *testing.T, c api.Config, which func(int) bool) api.Config {
	t.Helper()
	c.Validators = slices.Clone(c.Validators)
	for who := range c.Validators {
		if which(who) {
			c.Validators[who].Key = "another" + string([]byte{byte(who)})
		}
	}
	return can(t, c)
}

// target has no two bytes that are the same, so that one in the wrong place is told.
func target() api.Root {
	var r api.Root
	for i := range r {
		r[i] = byte(i*7 + 1)
	}
	return r
}

// row reads a row from a text: y for yes, any other for no.
func row(text string) []bool {
	list := make([]bool, len(text))
	for i := range list {
		list[i] = text[i] == 'y'
	}
	return list
}

// rowOf is a row of yes and no, told by the lowest bits of a number.
func rowOf(size int, pattern uint) []bool {
	list := make([]bool, size)
	for i := range list {
		list[i] = pattern>>i&1 == 1
	}
	return list
}

func block(slot, member int, body uint64) api.Message {
	return api.Message{Kind: api.KindBlock, Slot: slot, Target: target(), Member: member, Body: body}
}

func vote(slot, member int) api.Message {
	return api.Message{Kind: api.KindVote, Slot: slot, Target: target(), Member: member}
}

func sum(slot int, bits []bool) api.Message {
	return api.Message{Kind: api.KindSum, Slot: slot, Target: target(), Bits: bits}
}

// but is a message with one thing changed.
func but(m api.Message, change func(*api.Message)) api.Message {
	m.Bits = slices.Clone(m.Bits)
	change(&m)
	return m
}

// same answers whether two messages are, lists element by element.
func same(a, b api.Message) bool {
	return a.Kind == b.Kind && a.Slot == b.Slot && a.Target == b.Target && a.Member == b.Member && a.Body == b.Body && slices.Equal(a.Bits, b.Bits) && a.Tag == b.Tag
}

// membersOf is a slot's members by layer 6's words: a validator's place is how many validators come ahead of it.
func membersOf(c api.Config, slot int) []int {
	lots := make([][]byte, len(c.Validators))
	for who := range lots {
		b := binary.LittleEndian.AppendUint32([]byte("board"), uint32(slot))
		r := sha256.Sum256(binary.LittleEndian.AppendUint16(b, uint16(who)))
		lots[who] = r[:]
	}
	list := make([]int, c.Committee)
	for who := range lots {
		at := 0
		for other := range lots {
			d := bytes.Compare(lots[other], lots[who])
			if d < 0 || d == 0 && other < who {
				at++
			}
		}
		if at < len(list) {
			list[at] = who
		}
	}
	return list
}

// canBe answers whether a message can be, by layer 7's words.
func canBe(m api.Message) bool {
	slot := m.Slot >= 0 && m.Slot <= maxSlot
	member := m.Member >= 0 && m.Member <= maxMember
	one := (m.Kind == 1 || m.Kind == 2) && len(m.Bits) == 0
	several := m.Kind == 3 && m.Member == 0 && len(m.Bits) >= 1 && len(m.Bits) <= 16 && slices.Contains(m.Bits, true)
	body := m.Kind == 1 || m.Body == 0
	return slot && member && (one || several) && body
}

// speakersOf is who speaks in a message, by the chapter's words.
func speakersOf(c api.Config, m api.Message) ([]int, bool) {
	if !canBe(m) {
		return nil, false
	}
	members := membersOf(c, m.Slot)
	switch {
	case m.Kind == 1 && m.Member == members[0], m.Kind == 2 && slices.Contains(members, m.Member):
		return []int{m.Member}, true
	case m.Kind == 3 && len(m.Bits) == len(members):
		var list []int
		for i, yes := range m.Bits {
			if yes {
				list = append(list, members[i])
			}
		}
		return list, true
	}
	return nil, false
}

// macOf is layer 4's tag of the plain bytes of a block or a vote, by its Member's key.
func macOf(c api.Config, m api.Message) api.Tag {
	b := binary.LittleEndian.AppendUint32([]byte{byte(m.Kind)}, uint32(m.Slot))
	b = append(b, m.Target[:]...)
	b = binary.LittleEndian.AppendUint16(b, uint16(m.Member))
	if m.Kind == 1 {
		b = binary.LittleEndian.AppendUint64(b, m.Body)
	}
	h := hmac.New(sha256.New, []byte(c.Validators[m.Member].Key))
	h.Write(b)
	return api.Tag(h.Sum(nil)[:16])
}

// tagOf is the tag of a message in which these speak, by the chapter's words.
func tagOf(c api.Config, m api.Message, speakers []int) api.Tag {
	if m.Kind != 3 {
		return macOf(c, m)
	}
	var out api.Tag
	for _, who := range speakers {
		one := macOf(c, api.Message{Kind: 2, Slot: m.Slot, Target: m.Target, Member: who})
		for i := range out {
			out[i] ^= one[i]
		}
	}
	return out
}

// wantSpoken holds all calls against a message in which these speak.
func wantSpoken(t *testing.T, c api.Config, m api.Message, speakers []int) {
	t.Helper()
	want := tagOf(c, m, speakers)
	if got, ok := seal.Speakers(c, m); !ok || !slices.Equal(got, speakers) {
		t.Errorf("%v: %v speak, %v, want %v", m, got, ok, speakers)
	}
	if got, ok := seal.Tag(c, m); !ok || got != want {
		t.Errorf("%v: tag %x, %v, want %x", m, got, ok, want)
	}
	signed, ok := seal.Sign(c, m)
	if !ok || !same(signed, but(m, func(m *api.Message) { m.Tag = want })) {
		t.Errorf("%v: signed %v, %v, want the tag %x", m, signed, ok, want)
	}
	if !seal.Check(c, signed) {
		t.Errorf("%v is signed, and isn't checked", signed)
	}
	if got := seal.Check(c, m); got != (m.Tag == want) {
		t.Errorf("%v: checked %v, its tag is %x", m, got, want)
	}
	var votes []api.Vote
	if m.Kind != 1 {
		for _, who := range speakers {
			votes = append(votes, api.Vote{Validator: who, Slot: m.Slot, Target: m.Target})
		}
	}
	if got := seal.Votes(c, m); !slices.Equal(got, votes) {
		t.Errorf("%v: votes %v, want %v", m, got, votes)
	}
}

// wantSilent holds all calls against a message in which nobody speaks.
func wantSilent(t *testing.T, c api.Config, m api.Message) {
	t.Helper()
	if got, ok := seal.Speakers(c, m); ok || len(got) != 0 {
		t.Errorf("%v: %v speak, %v", m, got, ok)
	}
	if got, ok := seal.Tag(c, m); ok || got != (api.Tag{}) {
		t.Errorf("%v: tag %x, %v", m, got, ok)
	}
	if got, ok := seal.Sign(c, m); ok || !same(got, api.Message{}) {
		t.Errorf("%v: signed %v, %v", m, got, ok)
	}
	if seal.Check(c, m) {
		t.Errorf("%v is checked", m)
	}
	if got := seal.Votes(c, m); len(got) != 0 {
		t.Errorf("%v: votes %v", m, got)
	}
}

// wantEither holds all calls against what the chapter says of any message.
func wantEither(t *testing.T, c api.Config, m api.Message) {
	t.Helper()
	if speakers, ok := speakersOf(c, m); ok {
		wantSpoken(t, c, m, speakers)
	} else {
		wantSilent(t, c, m)
	}
}

// shapes are numbers of validators and members at their edges, and between.
func shapes() [][2]int {
	return [][2]int{{1, 1}, {2, 1}, {2, 2}, {5, 3}, {8, 8}, {16, 1}, {16, 15}, {16, 16}, {20, 7}, {64, 1}, {64, 2}, {64, 15}, {64, 16}}
}

// slots are slots from the least to the greatest: of one epoch, of several, and such that each of their bytes counts.
func slots() []int {
	return []int{0, 1, 2, 3, 4, 7, 8, 31, 32, 255, 256, 300, 65536, 1 << 24, 0x01020304, 123456789, maxSlot - 1, maxSlot}
}

// spoken are messages of each kind in a slot in which somebody speaks.
func spoken(c api.Config, slot int) []api.Message {
	members, size := membersOf(c, slot), c.Committee
	return []api.Message{
		block(slot, members[0], 0),
		block(slot, members[0], 0x0708090a0b0c0d0e),
		vote(slot, members[0]),
		vote(slot, members[size-1]),
		sum(slot, rowOf(size, math.MaxUint)),
		sum(slot, rowOf(size, 0x5555)),
		sum(slot, rowOf(size, 1)),
		sum(slot, rowOf(size, 1<<(size-1))),
	}
}

// P8.1: the chapter's example: a block by somebody who doesn't propose: nobody speaks.
func TestExample(t *testing.T) {
	c := with(t, 5, 3)
	for slot := range 40 {
		proposer := membersOf(c, slot)[0]
		for who := range 5 {
			if who != proposer {
				wantSilent(t, c, block(slot, who, 3))
			}
		}
		wantSpoken(t, c, block(slot, proposer, 3), []int{proposer})
	}
}

// P8.1: who speaks, and tags, that were worked out apart from any Go code.
func TestWrittenOut(t *testing.T) {
	for _, x := range []struct {
		n, size  int
		m        api.Message
		speakers []int
		want     string
	}{
		{1, 1, block(0, 0, 0), []int{0}, "0013dd5e8aaba8d5966c79d0281a11c3"},
		{1, 1, block(0, 0, 0x0708090a0b0c0d0e), []int{0}, "b72abb529f8ccee9c4d06eb41f85161a"},
		{1, 1, block(0, 0, math.MaxUint64), []int{0}, "6b2a591c70c3667a7ef75fc6efa757a5"},
		{1, 1, vote(0, 0), []int{0}, "845cbedb10c90c5df185adbeb9780ef8"},
		{1, 1, sum(0, row("y")), []int{0}, "845cbedb10c90c5df185adbeb9780ef8"},
		{5, 3, block(7, 4, 0), []int{4}, "d01c640196638090344ed41795f828e2"},
		{5, 3, block(7, 4, 0x0708090a0b0c0d0e), []int{4}, "2a6e77810da6292951afaa5b1e82a025"},
		{5, 3, block(7, 4, math.MaxUint64), []int{4}, "aefbf96116424ddf11cfb92e58d2b200"},
		{5, 3, vote(7, 4), []int{4}, "80599bf0f73cf8e2f87032ab2d1f44ab"},
		{5, 3, vote(7, 2), []int{2}, "71c34d80c62dd27ab02cc5fb080b291c"},
		{5, 3, sum(7, row("yyy")), []int{4, 0, 2}, "3faac4b4a5dfd742e6a5dad2fc2057b0"},
		{5, 3, sum(7, row("yny")), []int{4, 2}, "f19ad67031112a98485cf75025146db7"},
		{5, 3, sum(7, row("nny")), []int{2}, "71c34d80c62dd27ab02cc5fb080b291c"},
		{16, 16, block(0, 0, 0), []int{0}, "0013dd5e8aaba8d5966c79d0281a11c3"},
		{16, 16, block(0, 0, 0x0708090a0b0c0d0e), []int{0}, "b72abb529f8ccee9c4d06eb41f85161a"},
		{16, 16, block(0, 0, math.MaxUint64), []int{0}, "6b2a591c70c3667a7ef75fc6efa757a5"},
		{16, 16, vote(0, 0), []int{0}, "845cbedb10c90c5df185adbeb9780ef8"},
		{16, 16, vote(0, 6), []int{6}, "2844e4bb3ae82162a2aca5f63dd8493a"},
		{16, 16, sum(0, row("yyyyyyyyyyyyyyyy")), []int{0, 1, 5, 15, 10, 14, 9, 13, 2, 4, 7, 8, 3, 12, 11, 6}, "9e8d716392eeea206c07363a797e9693"},
		{16, 16, sum(0, row("ynynynynynynynyn")), []int{0, 5, 10, 9, 2, 7, 3, 11}, "001bea0e9b495c4e5ae5b46dea595815"},
		{16, 16, sum(0, row("nnnnnnnnnnnnnnny")), []int{6}, "2844e4bb3ae82162a2aca5f63dd8493a"},
		{20, 7, block(300, 4, 0), []int{4}, "d4d9c27ef432fefc2c85a65da3548ba4"},
		{20, 7, block(300, 4, 0x0708090a0b0c0d0e), []int{4}, "efe068549102df2d2406b23099075784"},
		{20, 7, block(300, 4, math.MaxUint64), []int{4}, "a70150ddb9dc5d9f1381ff4fb8d5edfc"},
		{20, 7, vote(300, 4), []int{4}, "13ac07f5e97f617599c5ad9d8e99ce12"},
		{20, 7, vote(300, 12), []int{12}, "92824c217575a19eda7c16b7943b1257"},
		{20, 7, sum(300, row("yyyyyyy")), []int{4, 13, 11, 10, 19, 16, 12}, "66d0b4f5e40eda29d14ab9b6d69a4458"},
		{20, 7, sum(300, row("ynynyny")), []int{4, 11, 19, 12}, "c3673e1c4c8aa5eb161a380e77509037"},
		{20, 7, sum(300, row("nnnnnny")), []int{12}, "92824c217575a19eda7c16b7943b1257"},
		{64, 16, block(maxSlot, 27, 0), []int{27}, "7055e3b7f0f1c9d075989261d7432ac3"},
		{64, 16, block(maxSlot, 27, 0x0708090a0b0c0d0e), []int{27}, "b8779f1976c7d4943063b11e49df2648"},
		{64, 16, block(maxSlot, 27, math.MaxUint64), []int{27}, "643a4e2deeb1a017a265d54bcb682f6c"},
		{64, 16, vote(maxSlot, 27), []int{27}, "3752c1405614d055f2a711b04f02c487"},
		{64, 16, vote(maxSlot, 44), []int{44}, "1e9666ae403473502756d8218fbb2fd2"},
		{64, 16, sum(maxSlot, row("yyyyyyyyyyyyyyyy")), []int{27, 50, 57, 26, 45, 37, 34, 24, 13, 40, 6, 1, 59, 48, 33, 44}, "8040dc11d81a56e55f939b5fe4c30bae"},
		{64, 16, sum(maxSlot, row("ynynynynynynynyn")), []int{27, 57, 45, 34, 13, 6, 59, 33}, "88e3a02f2cb6a0e013d66bb75c7e7ebe"},
		{64, 16, sum(maxSlot, row("nnnnnnnnnnnnnnny")), []int{44}, "1e9666ae403473502756d8218fbb2fd2"},
		{64, 1, block(123456789, 32, 0), []int{32}, "0c7ee7ac319f65144ecb888dc9f6421f"},
		{64, 1, block(123456789, 32, 0x0708090a0b0c0d0e), []int{32}, "05d303396424e65cf1321981230562b2"},
		{64, 1, block(123456789, 32, math.MaxUint64), []int{32}, "6cd9de92b72e957c85f33434c67cfd1d"},
		{64, 1, vote(123456789, 32), []int{32}, "5971449715efb91489a1e9bcdfb34dd9"},
		{64, 1, sum(123456789, row("y")), []int{32}, "5971449715efb91489a1e9bcdfb34dd9"},
	} {
		c := with(t, x.n, x.size)
		if got, ok := seal.Speakers(c, x.m); !ok || !slices.Equal(got, x.speakers) {
			t.Errorf("%v: %v speak, %v, want %v", x.m, got, ok, x.speakers)
		}
		if got, ok := seal.Tag(c, x.m); !ok || hex.EncodeToString(got[:]) != x.want {
			t.Errorf("%v: tag %x, %v, want %s", x.m, got, ok, x.want)
		}
		if got, ok := seal.Sign(c, x.m); !ok || hex.EncodeToString(got.Tag[:]) != x.want || !seal.Check(c, got) {
			t.Errorf("%v: signed %v, %v, want the tag %s", x.m, got, ok, x.want)
		}
		wantSpoken(t, c, x.m, x.speakers)
	}
}

// P8.1: blocks by who proposes, by other members, by validators that are no members, and by Members that are no validator's place.
func TestBlocks(t *testing.T) {
	for _, shape := range shapes() {
		c := with(t, shape[0], shape[1])
		for _, slot := range slots() {
			proposer := membersOf(c, slot)[0]
			for _, body := range []uint64{0, 1, math.MaxUint64} {
				wantSpoken(t, c, block(slot, proposer, body), []int{proposer})
			}
			for who := range shape[0] {
				if who != proposer {
					wantSilent(t, c, block(slot, who, 0))
				}
			}
			for _, who := range nobody(c, slot) {
				wantSilent(t, c, block(slot, who, 9))
			}
		}
	}
}

// nobody are Members that are no validator's place; some would be a member's if only their lowest bytes were taken.
func nobody(c api.Config, slot int) []int {
	n := len(c.Validators)
	list := []int{n, n + 1, 64, 65, 255, 256, 1000, maxMember - 1, maxMember, maxMember + 1, -1, -2, math.MinInt, math.MaxInt}
	members := membersOf(c, slot)
	for _, who := range []int{members[0], members[len(members)-1]} {
		list = append(list, who+1<<8, who+1<<16, who+1<<32, who-1<<8, who-1<<16, who-1<<32)
	}
	return list
}

// P8.1: votes by each member of the slot's committee, by other validators, and by Members that are no validator's place.
func TestVotesOfOne(t *testing.T) {
	for _, shape := range shapes() {
		c := with(t, shape[0], shape[1])
		for _, slot := range slots() {
			members := membersOf(c, slot)
			for who := range shape[0] {
				if slices.Contains(members, who) {
					wantSpoken(t, c, vote(slot, who), []int{who})
				} else {
					wantSilent(t, c, vote(slot, who))
				}
			}
			for _, who := range nobody(c, slot) {
				wantSilent(t, c, vote(slot, who))
			}
		}
	}
}

// P8.1: sums with as many Bits as members, with yes everywhere, at each one place, at all but one, and nowhere.
func TestSums(t *testing.T) {
	for _, shape := range shapes() {
		size := shape[1]
		c := with(t, shape[0], size)
		for _, slot := range slots() {
			members := membersOf(c, slot)
			wantSpoken(t, c, sum(slot, rowOf(size, math.MaxUint)), members)
			wantSilent(t, c, sum(slot, rowOf(size, 0)))
			for i := range size {
				wantSpoken(t, c, sum(slot, rowOf(size, 1<<i)), members[i:i+1])
				others := slices.Delete(slices.Clone(members), i, i+1)
				if len(others) > 0 {
					wantSpoken(t, c, sum(slot, rowOf(size, ^uint(1<<i))), others)
				}
			}
		}
	}
}

// P8.1: every row of a committee of five: those for whose place it says yes speak, in the committee's order.
func TestEveryRow(t *testing.T) {
	c := with(t, 9, 5)
	for _, slot := range []int{0, 6, 300, maxSlot} {
		members := membersOf(c, slot)
		if slices.IsSorted(members) {
			t.Fatalf("slot %d: the committee's order %v is told by no test", slot, members)
		}
		for pattern := uint(1); pattern < 32; pattern++ {
			var speakers []int
			for i, who := range members {
				if pattern>>i&1 == 1 {
					speakers = append(speakers, who)
				}
			}
			wantSpoken(t, c, sum(slot, rowOf(5, pattern)), speakers)
		}
	}
}

// P8.1: sums with fewer or more Bits than members: one, some, none, as many as there are validators.
func TestOtherLengths(t *testing.T) {
	for _, shape := range shapes() {
		c := with(t, shape[0], shape[1])
		for _, slot := range []int{0, 1, 300, maxSlot} {
			for _, size := range []int{0, shape[1] - 1, shape[1] + 1, 2 * shape[1], shape[0], 1, 16, 17, 64, 1000} {
				if size == shape[1] {
					continue
				}
				for _, pattern := range []uint{0, 1, 0x5555, math.MaxUint} {
					wantSilent(t, c, sum(slot, rowOf(size, pattern)))
				}
			}
			wantSilent(t, c, sum(slot, nil))
		}
	}
}

// P8.1: messages that would be spoken, but can't be: of each kind with another slot, another Member, Bits, or a Body.
func TestMessagesThatCannotBe(t *testing.T) {
	for _, shape := range [][2]int{{1, 1}, {5, 3}, {64, 16}} {
		c := with(t, shape[0], shape[1])
		for _, slot := range []int{0, 7, maxSlot} {
			for _, m := range spoken(c, slot) {
				wantEither(t, c, m)
				for _, other := range []int{-1, -2, -maxSlot, math.MinInt32, math.MinInt, maxSlot + 1, maxSlot + 2, math.MaxInt32, math.MaxInt, slot + 1<<32, slot - 1<<32} {
					wantSilent(t, c, but(m, func(m *api.Message) { m.Slot = other }))
				}
				for _, by := range []int{1 << 16, 1 << 32, -1 << 16, -1 << 32, math.MinInt} {
					wantSilent(t, c, but(m, func(m *api.Message) { m.Member += by }))
				}
				if m.Kind != api.KindBlock {
					for _, body := range []uint64{1, 256, 1 << 63, math.MaxUint64} {
						wantSilent(t, c, but(m, func(m *api.Message) { m.Body = body }))
					}
				}
				if m.Kind == api.KindSum {
					for _, member := range []int{1, 2, shape[0], maxMember} {
						wantSilent(t, c, but(m, func(m *api.Message) { m.Member = member }))
					}
					continue
				}
				for _, size := range []int{1, shape[1], 16, 17} {
					wantSilent(t, c, but(m, func(m *api.Message) { m.Bits = rowOf(size, 0) }))
					wantSilent(t, c, but(m, func(m *api.Message) { m.Bits = rowOf(size, math.MaxUint) }))
				}
			}
		}
	}
}

// P8.1: messages of no kind, also such whose lowest byte is a kind, whatever else they hold, and the empty one.
func TestNoKind(t *testing.T) {
	c := with(t, 5, 3)
	for _, m := range append(spoken(c, 7), api.Message{}, api.Message{Bits: row("yyy")}) {
		for _, kind := range []int{0, 4, 5, 255, 256, 257, 258, 259, -1, -2, -3, -253, -254, -255, 1<<32 + 1, 1<<32 + 2, 1<<32 + 3, math.MaxInt, math.MinInt} {
			wantSilent(t, c, but(m, func(m *api.Message) { m.Kind = kind }))
		}
	}
	wantSilent(t, c, api.Message{})
}

// P8.1: a message of one kind taken for one of another.
func TestOtherKinds(t *testing.T) {
	for _, shape := range shapes() {
		c := with(t, shape[0], shape[1])
		for _, m := range spoken(c, 9) {
			for kind := 1; kind <= 3; kind++ {
				wantEither(t, c, but(m, func(m *api.Message) { m.Kind = kind }))
			}
		}
	}
}

// P8.1: a block and a vote have layer 4's tag of layer 7's plain bytes; all that these hold plays a part in it.
func TestTagsOfOne(t *testing.T) {
	c := with(t, 20, 7)
	for _, slot := range slots() {
		proposer := membersOf(c, slot)[0]
		for _, m := range []api.Message{block(slot, proposer, 0), block(slot, proposer, 77), vote(slot, proposer)} {
			got, ok := seal.Tag(c, m)
			if want := mac.Of(c.Validators[proposer].Key, wire.Plain(m)); !ok || got != want || got != macOf(c, m) {
				t.Errorf("%v: tag %x, %v, want %x", m, got, ok, want)
			}
		}
	}
	seen := map[api.Tag]api.Message{}
	for _, slot := range slots() {
		for _, who := range membersOf(c, slot) {
			for _, root := range []api.Root{{}, {0: 1}, {31: 1}, target()} {
				for _, m := range []api.Message{block(slot, who, 0), block(slot, who, 1), block(slot, who, 1<<63), vote(slot, who)} {
					m.Target = root
					got, ok := seal.Tag(c, m)
					if !ok {
						continue
					}
					if other, twice := seen[got]; twice {
						t.Errorf("%v and %v have one tag", m, other)
					}
					seen[got] = m
				}
			}
		}
	}
}

// P8.2: a sum's tag is that of its votes, joined, in their order, turned round, and mixed.
func TestSumsTagIsOfItsVotes(t *testing.T) {
	random := rand.New(rand.NewSource(8))
	for _, shape := range shapes() {
		c := with(t, shape[0], shape[1])
		for _, slot := range slots() {
			for _, m := range spoken(c, slot) {
				if m.Kind != api.KindSum {
					continue
				}
				want, ok := seal.Tag(c, m)
				var tags []api.Tag
				for _, v := range seal.Votes(c, m) {
					signed, is := seal.Sign(c, api.Message{Kind: api.KindVote, Slot: v.Slot, Target: v.Target, Member: v.Validator})
					ok = ok && is && seal.Check(c, signed)
					tags = append(tags, signed.Tag)
				}
				joined := []api.Tag{mac.Join(tags...)}
				slices.Reverse(tags)
				joined = append(joined, mac.Join(tags...))
				random.Shuffle(len(tags), func(i, j int) { tags[i], tags[j] = tags[j], tags[i] })
				joined = append(joined, mac.Join(tags...))
				for _, got := range joined {
					if !ok || got != want || !seal.Check(c, but(m, func(m *api.Message) { m.Tag = got })) {
						t.Errorf("%v: its votes' tags joined are %x, %v, want %x", m, got, ok, want)
					}
				}
			}
		}
	}
}

// P8.2: the tag of a sum is not that of some of its votes, of more, or of the committee's votes for another block or slot.
func TestOtherSums(t *testing.T) {
	c := with(t, 9, 5)
	whole, _ := seal.Sign(c, sum(6, row("yynyn")))
	for pattern := uint(1); pattern < 32; pattern++ {
		m := but(whole, func(m *api.Message) { m.Bits = rowOf(5, pattern) })
		if got, want := seal.Check(c, m), slices.Equal(m.Bits, whole.Bits); got != want {
			t.Errorf("%v: checked %v", m, got)
		}
	}
	if seal.Check(c, but(whole, func(m *api.Message) { m.Target[31]++ })) || seal.Check(c, but(whole, func(m *api.Message) { m.Slot++ })) {
		t.Error("the tag is another target's or slot's, too")
	}
	if whole.Tag == macOf(c, vote(6, membersOf(c, 6)[0])) {
		t.Error("the tag is one vote's")
	}
}

// P8.2: a sum in which one speaks has the tag of that one's vote.
func TestSumOfOne(t *testing.T) {
	for _, shape := range shapes() {
		c := with(t, shape[0], shape[1])
		for _, slot := range []int{0, 7, maxSlot} {
			for i, who := range membersOf(c, slot) {
				m, _ := seal.Tag(c, sum(slot, rowOf(shape[1], 1<<i)))
				v, ok := seal.Tag(c, vote(slot, who))
				if !ok || m != v || m == (api.Tag{}) {
					t.Errorf("slot %d, %d: a sum's tag %x, a vote's %x", slot, who, m, v)
				}
			}
		}
	}
}

// P8.2: validators with one key have tags of their own, since each vote says whose it is: none are joined to nothing.
func TestOneKeyForAll(t *testing.T) {
	c := with(t, 6, 4)
	for i := range c.Validators {
		c.Validators[i].Key = "k"
	}
	for pattern := uint(1); pattern < 16; pattern++ {
		m := sum(5, rowOf(4, pattern))
		wantEither(t, can(t, c), m)
		if got, ok := seal.Tag(c, m); !ok || got == (api.Tag{}) {
			t.Errorf("%v: tag %x, %v", m, got, ok)
		}
	}
}

// P8.1: messages that differ in nothing but their Tag have the same one, speakers and votes.
func TestWhateverTheTag(t *testing.T) {
	for _, shape := range shapes() {
		c := with(t, shape[0], shape[1])
		for _, m := range spoken(c, 7) {
			speakers, _ := speakersOf(c, m)
			want := tagOf(c, m, speakers)
			for _, other := range []api.Tag{{}, {0: 1}, {15: 255}, api.Tag(bytes.Repeat([]byte{255}, 16)), want} {
				m.Tag = other
				wantSpoken(t, c, m, speakers)
			}
		}
		wantSilent(t, c, but(block(7, shape[0], 0), func(m *api.Message) { m.Tag = api.Tag{3: 4} }))
	}
}

// P8.1 and P8.2: Sign answers the message with its tag, and as it was else; signed again it is the same.
func TestSign(t *testing.T) {
	for _, shape := range shapes() {
		c := with(t, shape[0], shape[1])
		for _, slot := range slots() {
			for _, m := range spoken(c, slot) {
				m.Tag = api.Tag{2: 9}
				signed, ok := seal.Sign(c, m)
				again, is := seal.Sign(c, signed)
				if !ok || !is || !same(signed, again) || !seal.Check(c, signed) || seal.Check(c, m) {
					t.Errorf("%v: signed %v, %v, again %v, %v", m, signed, ok, again, is)
				}
				if signed.Tag = m.Tag; !same(signed, m) {
					t.Errorf("%v is signed as %v", m, signed)
				}
			}
		}
	}
}

// P8.1: Check of messages with one bit of the tag changed, with 16 bytes 0, and with all else that they say changed.
func TestCheckOfOthers(t *testing.T) {
	for _, shape := range [][2]int{{1, 1}, {5, 3}, {64, 16}} {
		c := with(t, shape[0], shape[1])
		for _, plain := range spoken(c, 300) {
			m, ok := seal.Sign(c, plain)
			if !ok || !seal.Check(c, m) {
				t.Fatalf("%v isn't signed", plain)
			}
			for bit := range 128 {
				if seal.Check(c, but(m, func(m *api.Message) { m.Tag[bit/8] ^= 1 << (bit % 8) })) {
					t.Errorf("%v, bit %d of the tag changed, is checked", m, bit)
				}
			}
			for i, change := range []func(*api.Message){
				func(m *api.Message) { m.Tag = api.Tag{} },
				func(m *api.Message) { slices.Reverse(m.Tag[:]) },
				func(m *api.Message) { m.Target[0]++ },
				func(m *api.Message) { m.Target[31] ^= 128 },
				func(m *api.Message) { m.Slot++ },
				func(m *api.Message) { m.Body++ },
				func(m *api.Message) { m.Member++ },
				func(m *api.Message) { m.Kind = m.Kind%3 + 1 },
				func(m *api.Message) { m.Kind = (m.Kind+1)%3 + 1 },
				func(m *api.Message) { m.Bits = append(m.Bits, true) },
			} {
				if other := but(m, change); seal.Check(c, other) {
					t.Errorf("change %d: %v is checked", i, other)
				}
			}
		}
	}
}

// P8.1: nobody who can't speak is checked, not by the tag that its key gives, nor by 16 bytes 0.
func TestCheckOfWhoMayNot(t *testing.T) {
	c := with(t, 9, 4)
	for _, slot := range slots() {
		members := membersOf(c, slot)
		for who := range 9 {
			if who != members[0] {
				m := block(slot, who, 5)
				m.Tag = macOf(c, m)
				wantSilent(t, c, m)
			}
			if !slices.Contains(members, who) {
				m := vote(slot, who)
				m.Tag = macOf(c, m)
				wantSilent(t, c, m)
			}
		}
		for _, size := range []int{3, 5} {
			m := sum(slot, rowOf(size, 7))
			m.Tag = tagOf(c, m, members[:3])
			wantSilent(t, c, m)
		}
		wantSilent(t, c, sum(slot, row("nnnn")))
	}
}

// P8.1: the keys of those that don't speak play no part; those of each that does, do.
func TestKeys(t *testing.T) {
	for _, shape := range shapes() {
		c := with(t, shape[0], shape[1])
		for _, m := range spoken(c, 7) {
			speakers, _ := speakersOf(c, m)
			signed, _ := seal.Sign(c, m)
			others := otherKeys(t, c, func(who int) bool { return !slices.Contains(speakers, who) })
			if got, ok := seal.Sign(others, m); !ok || !same(got, signed) || !seal.Check(others, signed) {
				t.Errorf("%v: with others' keys changed it is signed %v, %v, want %v", m, got, ok, signed)
			}
			for _, who := range speakers {
				its := otherKeys(t, c, func(other int) bool { return other == who })
				if got, ok := seal.Tag(its, m); !ok || got == signed.Tag || seal.Check(its, signed) {
					t.Errorf("%v: with the key of %d changed its tag is %x, %v", m, who, got, ok)
				}
			}
		}
	}
}

// P8.1: stakes, and numbers of which the chapter says nothing, play no part; epochs don't, either.
func TestOtherFields(t *testing.T) {
	a := with(t, 20, 7)
	b := api.Config{Epoch: 32, Committee: 7, Nodes: 256, Orphans: 64, Early: 64, Quota: 64, Peers: 16, Bytes: 1, Window: 64, Ban: 1 << 20, Decay: 1 << 20}
	for _, v := range a.Validators {
		b.Validators = append(b.Validators, api.Validator{Stake: 1 << 50, Key: v.Key})
	}
	can(t, b)
	for _, slot := range slots() {
		for _, m := range spoken(a, slot) {
			one, _ := seal.Sign(a, m)
			other, ok := seal.Sign(b, m)
			if !ok || !same(one, other) || !slices.Equal(seal.Votes(a, m), seal.Votes(b, m)) {
				t.Errorf("%v: signed %v and %v", m, one, other)
			}
		}
	}
}

// P8.1: Votes of blocks: nothing; of votes and sums one for each who speaks, in their order, whatever the tag.
func TestVotes(t *testing.T) {
	c := with(t, 5, 3)
	for _, x := range []struct {
		m    api.Message
		want []api.Vote
	}{
		{block(7, 4, 3), nil},
		{block(7, 0, 3), nil},
		{vote(7, 2), []api.Vote{{Validator: 2, Slot: 7, Target: target()}}},
		{vote(7, 1), nil},
		{vote(7, 5), nil},
		{sum(7, row("yyy")), []api.Vote{{Validator: 4, Slot: 7, Target: target()}, {Validator: 0, Slot: 7, Target: target()}, {Validator: 2, Slot: 7, Target: target()}}},
		{sum(7, row("yny")), []api.Vote{{Validator: 4, Slot: 7, Target: target()}, {Validator: 2, Slot: 7, Target: target()}}},
		{sum(7, row("nyn")), []api.Vote{{Validator: 0, Slot: 7, Target: target()}}},
		{sum(7, row("nnn")), nil},
		{sum(7, row("yy")), nil},
		{sum(7, row("yyyy")), nil},
		{api.Message{}, nil},
		{api.Message{Kind: 4, Slot: 7, Member: 4}, nil},
	} {
		for _, tag := range []api.Tag{{}, {0: 8}} {
			x.m.Tag = tag
			if got := seal.Votes(c, x.m); !slices.Equal(got, x.want) {
				t.Errorf("%v: votes %v, want %v", x.m, got, x.want)
			}
		}
	}
}

// P8.1: slots in a row, over several epochs, of an ordinary configuration.
func TestSlotsInARow(t *testing.T) {
	c := with(t, 12, 5)
	for slot := range 70 {
		for who := range 13 {
			wantEither(t, c, block(slot, who, uint64(slot)))
			wantEither(t, c, vote(slot, who))
		}
		for _, pattern := range []uint{0, 1, 2, 21, 31} {
			wantEither(t, c, sum(slot, rowOf(5, pattern)))
		}
	}
}

// P8.1: blocks and votes whose Bits are empty, and not nil, are spoken as those without.
func TestEmptyRow(t *testing.T) {
	c := with(t, 5, 3)
	for _, m := range []api.Message{block(7, 4, 3), vote(7, 2)} {
		for _, bits := range [][]bool{nil, {}, row("yyy")[:0]} {
			m.Bits = bits
			wantSpoken(t, c, m, []int{m.Member})
		}
	}
}

// P8.1: messages made up of all kinds of fields, such that can be and such that can't, held against the chapter's words.
func TestMadeUp(t *testing.T) {
	random := rand.New(rand.NewSource(26))
	spokenIn := map[int]int{}
	for range 30000 {
		n := 1 + random.Intn(6)
		c := with(t, n, 1+random.Intn(n))
		m := api.Message{Kind: random.Intn(5), Slot: random.Intn(9) - 1, Target: target()}
		if random.Intn(8) == 0 {
			m.Slot = maxSlot - 2 + random.Intn(5)
		}
		if m.Kind != 3 || random.Intn(8) == 0 {
			m.Member = random.Intn(n+3) - 1
		}
		if m.Kind == 3 || random.Intn(8) == 0 {
			m.Bits = rowOf(max(0, c.Committee+random.Intn(3)-1), uint(random.Intn(64)))
		}
		if m.Kind == 1 || random.Intn(8) == 0 {
			m.Body = random.Uint64() >> random.Intn(64)
		}
		random.Read(m.Target[:])
		random.Read(m.Tag[:])
		wantEither(t, c, m)
		if _, ok := speakersOf(c, m); ok {
			spokenIn[m.Kind]++
		}
	}
	for kind := 1; kind <= 3; kind++ {
		if spokenIn[kind] < 500 {
			t.Errorf("of kind %d only %d were spoken", kind, spokenIn[kind])
		}
	}
}

// each asks all calls for a message.
func each(c api.Config, m api.Message) {
	seal.Speakers(c, m)
	seal.Tag(c, m)
	seal.Sign(c, m)
	seal.Check(c, m)
	seal.Votes(c, m)
}

// Rule 3: what is handed in is as it was, spare room included.
func TestHandedIn(t *testing.T) {
	c := with(t, 30, 9)
	room := slices.Concat(c.Validators, slices.Repeat([]api.Validator{{Stake: 77, Key: "spare"}}, 10))
	bits := rowOf(30, 0x2f5a9c35)
	roomWas, bitsWas := slices.Clone(room), slices.Clone(bits)
	c.Validators = room[:30]
	was := c
	for _, slot := range append(slots(), -1, maxSlot+1) {
		for _, size := range []int{0, 8, 9, 10, 17} {
			for kind := range 5 {
				m := api.Message{Kind: kind, Slot: slot, Target: target(), Member: 3, Bits: bits[:size], Tag: api.Tag{1}}
				each(c, m)
				m.Member = 0
				each(c, m)
			}
		}
	}
	if !reflect.DeepEqual(c, was) || !slices.Equal(room, roomWas) || !slices.Equal(bits, bitsWas) {
		t.Error("what was handed in is changed")
	}
}

// Rule 3: the lists of an answer are new memory.
func TestNewMemory(t *testing.T) {
	c := with(t, 30, 9)
	members := membersOf(c, 8)
	for _, m := range spoken(c, 8) {
		speakers, _ := speakersOf(c, m)
		first, _ := seal.Speakers(c, m)
		votes := seal.Votes(c, m)
		votesWere := slices.Clone(votes)
		signed, _ := seal.Sign(c, m)
		signedWas := but(signed, func(*api.Message) {})
		spoilt, _ := seal.Speakers(c, m)
		for i := range spoilt {
			spoilt[i] = -7
		}
		clear(seal.Votes(c, m))
		again, _ := seal.Sign(c, m)
		clear(again.Bits[:cap(again.Bits)])
		wantSpoken(t, c, m, speakers)
		clear(m.Bits)
		if !slices.Equal(first, speakers) || !slices.Equal(votes, votesWere) || !same(signed, signedWas) {
			t.Errorf("earlier answers became %v, %v, %v", first, votes, signed)
		}
	}
	if got, ok := seal.Speakers(c, sum(8, rowOf(9, math.MaxUint))); !ok || !slices.Equal(got, members) {
		t.Errorf("later answers became %v, want %v", got, members)
	}
}

// Rule 3: the Bits of what is signed have no room in what was handed in, either.
func TestSignedHasNoSpareRoom(t *testing.T) {
	c := with(t, 5, 3)
	for _, size := range []int{0, 3} {
		bits := make([]bool, 9)
		m := sum(7, bits[:size])
		if size == 0 {
			m.Kind, m.Member = api.KindBlock, 4
		} else {
			bits[0] = true
		}
		was := slices.Clone(bits)
		signed, ok := seal.Sign(c, m)
		_ = append(signed.Bits, true, true, true)
		if !ok || !slices.Equal(bits, was) {
			t.Errorf("%d bits: what was handed in became %v, %v", size, bits, ok)
		}
	}
}

// Rule 1: of configurations that can't be nothing is promised, but that calls end.
func TestConfigurationsThatCannotBe(t *testing.T) {
	for _, n := range []int{0, 1, 5, 65, 300} {
		for _, size := range []int{math.MinInt, -1, 0, 1, 6, 17, 301, math.MaxInt} {
			c := api.Config{Committee: size, Validators: make([]api.Validator, n)}
			for kind := range 5 {
				for _, slot := range []int{-1, 0, maxSlot, maxSlot + 1} {
					for _, member := range []int{-1, 0, n, maxMember} {
						each(c, api.Message{Kind: kind, Slot: slot, Member: member})
						each(c, api.Message{Kind: kind, Slot: slot, Member: member, Bits: []bool{true}})
						each(c, api.Message{Kind: kind, Slot: slot, Member: member, Bits: rowOf(16, math.MaxUint)})
					}
				}
			}
		}
	}
}
