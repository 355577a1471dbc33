package board_test

import (
	"bytes"
	"crypto/sha256"
	"encoding/binary"
	"math"
	"reflect"
	"slices"
	"strings"
	"testing"

	"toller/api"
	"toller/board"
	"toller/genesis"
)

const maxSlot = 1 << 30

// with is a configuration of n validators, size of them in a committee, that can be.
func with(t *testing.T, n, size int) api.Config {
	t.Helper()
	c := api.Config{Epoch: 4, Committee: size, Nodes: 9, Orphans: 3, Early: 4, Quota: 2, Peers: 5, Bytes: 100, Window: 6, Ban: 10, Decay: 1}
	for i := range n {
		c.Validators = append(c.Validators, api.Validator{Stake: i * 10, Key: strings.Repeat(string([]byte{byte(i)}), i%32+1)})
	}
	return can(t, c)
}

// can holds a test to configurations of which something is promised.
func can(t *testing.T, c api.Config) api.Config {
	t.Helper()
	if !genesis.Good(c) {
		t.Fatalf("%#v can't be", c)
	}
	return c
}

// lotOf is a validator's digest in a slot, by the chapter's words.
func lotOf(slot, who int) []byte {
	b := binary.LittleEndian.AppendUint32([]byte("board"), uint32(slot))
	r := sha256.Sum256(binary.LittleEndian.AppendUint16(b, uint16(who)))
	return r[:]
}

// membersOf is a slot's members by the chapter's words: a validator's place is how many validators come ahead of it.
func membersOf(n, size, slot int) []int {
	lots := make([][]byte, n)
	for who := range lots {
		lots[who] = lotOf(slot, who)
	}
	list := make([]int, size)
	for who := range n {
		at := 0
		for other := range n {
			d := bytes.Compare(lots[other], lots[who])
			if d < 0 || d == 0 && other < who {
				at++
			}
		}
		if at < size {
			list[at] = who
		}
	}
	return list
}

// shapes are numbers of validators and members at their edges, and between.
func shapes() [][2]int {
	return [][2]int{
		{1, 1}, {2, 1}, {2, 2}, {3, 2}, {5, 3}, {15, 15}, {16, 1}, {16, 15}, {16, 16}, {17, 16}, {20, 7}, {33, 5}, {63, 16}, {64, 1}, {64, 2}, {64, 15}, {64, 16},
	}
}

// slots are slots from 0 to MaxSlot: the edges, and such that each of their bytes counts.
func slots() []int {
	return []int{0, 1, 2, 3, 7, 255, 256, 257, 300, 65535, 65536, 65537, 1<<24 - 1, 1 << 24, 1<<24 + 1, 0x01020304, 0x34030201, 123456789, maxSlot / 2, maxSlot - 1, maxSlot}
}

// without are slots that have no members; some of them would be others if only their lower bytes were taken.
func without() []int {
	return []int{
		-1, -2, -256, -maxSlot, -maxSlot - 1, math.MinInt32, -1 << 32, -1<<32 + 1, math.MinInt + 1, math.MinInt,
		maxSlot + 1, maxSlot + 2, 2 * maxSlot, math.MaxInt32, math.MaxUint32, 1 << 32, 1<<32 + 1, 1<<32 + maxSlot, 1 << 62, math.MaxInt - 1, math.MaxInt,
	}
}

// row is a row of yes and no, told by the lowest bits of a number.
func row(size int, pattern uint) []bool {
	list := make([]bool, size)
	for i := range list {
		list[i] = pattern>>i&1 == 1
	}
	return list
}

// wantPick holds Pick against what is asked for.
func wantPick(t *testing.T, c api.Config, slot int, bits []bool, want []int, wantOK bool) {
	t.Helper()
	if got, ok := board.Pick(c, slot, bits); ok != wantOK || !slices.Equal(got, want) {
		t.Errorf("%d of %d, slot %d, %v: picked %v, %v, want %v, %v", c.Committee, len(c.Validators), slot, bits, got, ok, want, wantOK)
	}
}

// P6.1: the chapter's example: with one validator it proposes every block.
func TestOneValidator(t *testing.T) {
	c := with(t, 1, 1)
	for _, slot := range append(slots(), 4, 5, 6, 1000, 99999) {
		if got := board.Members(c, slot); !slices.Equal(got, []int{0}) {
			t.Errorf("slot %d: %v", slot, got)
		}
		if got := board.Proposer(c, slot); got != 0 {
			t.Errorf("slot %d: %d proposes", slot, got)
		}
		for who, want := range map[int]int{0: 0, 1: -1, -1: -1, 2: -1} {
			if got := board.Place(c, slot, who); got != want {
				t.Errorf("slot %d: %d stands at %d", slot, who, got)
			}
		}
		wantPick(t, c, slot, []bool{true}, []int{0}, true)
		wantPick(t, c, slot, []bool{false}, nil, true)
		wantPick(t, c, slot, nil, nil, false)
		wantPick(t, c, slot, []bool{true, true}, nil, false)
	}
}

// P6.1: members that were worked out apart from any Go code.
func TestMembersWrittenOut(t *testing.T) {
	for _, x := range []struct {
		n, size, slot int
		want          []int
	}{
		{1, 1, 0, []int{0}},
		{2, 1, 0, []int{0}},
		{2, 2, 0, []int{0, 1}},
		{2, 2, 1, []int{0, 1}},
		{2, 2, 3, []int{1, 0}},
		{2, 1, 3, []int{1}},
		{5, 3, 0, []int{0, 1, 2}},
		{5, 3, 1, []int{3, 4, 0}},
		{5, 3, 7, []int{4, 0, 2}},
		{5, 3, 300, []int{4, 2, 1}},
		{5, 5, 300, []int{4, 2, 1, 3, 0}},
		{16, 16, 0, []int{0, 1, 5, 15, 10, 14, 9, 13, 2, 4, 7, 8, 3, 12, 11, 6}},
		{16, 16, 1073741824, []int{13, 6, 1, 15, 2, 8, 11, 0, 10, 12, 7, 3, 5, 14, 4, 9}},
		{20, 7, 0, []int{0, 1, 5, 18, 15, 10, 14}},
		{20, 7, 1, []int{5, 6, 13, 3, 14, 7, 4}},
		{20, 7, 255, []int{11, 6, 14, 19, 10, 3, 2}},
		{20, 7, 256, []int{3, 17, 15, 18, 12, 8, 5}},
		{20, 7, 65536, []int{12, 9, 11, 7, 5, 2, 1}},
		{20, 7, 16777216, []int{6, 17, 13, 0, 1, 18, 11}},
		{20, 7, 1073741823, []int{8, 9, 4, 18, 14, 7, 12}},
		{20, 7, 1073741824, []int{13, 6, 1, 15, 2, 8, 11}},
		{64, 16, 0, []int{41, 26, 47, 42, 37, 48, 0, 28, 1, 32, 5, 36, 56, 57, 18, 53}},
		{64, 16, 1, []int{54, 57, 48, 5, 47, 40, 30, 32, 21, 49, 46, 36, 6, 35, 42, 38}},
		{64, 16, 1073741823, []int{8, 21, 46, 9, 44, 4, 45, 62, 54, 56, 55, 53, 18, 24, 50, 36}},
		{64, 16, 1073741824, []int{27, 50, 57, 26, 45, 37, 34, 24, 13, 40, 6, 1, 59, 48, 33, 44}},
		{64, 16, 16909060, []int{62, 17, 10, 25, 27, 37, 39, 63, 46, 15, 54, 20, 30, 2, 9, 33}},
		{64, 1, 123456789, []int{32}},
	} {
		c := with(t, x.n, x.size)
		if got := board.Members(c, x.slot); !slices.Equal(got, x.want) {
			t.Errorf("%d of %d, slot %d: %v, want %v", x.size, x.n, x.slot, got, x.want)
		}
		if got := board.Proposer(c, x.slot); got != x.want[0] {
			t.Errorf("%d of %d, slot %d: %d proposes, want %d", x.size, x.n, x.slot, got, x.want[0])
		}
	}
}

// P6.1: members held against the chapter's words, at the edges of slots, validators and committees.
func TestMembersByDefinition(t *testing.T) {
	for _, shape := range shapes() {
		c := with(t, shape[0], shape[1])
		for _, slot := range slots() {
			want := membersOf(shape[0], shape[1], slot)
			if got := board.Members(c, slot); !slices.Equal(got, want) {
				t.Errorf("%d of %d, slot %d: %v, want %v", shape[1], shape[0], slot, got, want)
			}
		}
	}
}

// P6.1: slots in a row, of an ordinary configuration.
func TestSlotsInARow(t *testing.T) {
	c := with(t, 12, 5)
	proposers := map[int]int{}
	for slot := range 600 {
		want := membersOf(12, 5, slot)
		if got := board.Members(c, slot); !slices.Equal(got, want) {
			t.Fatalf("slot %d: %v, want %v", slot, got, want)
		}
		proposers[board.Proposer(c, slot)]++
	}
	if len(proposers) != 12 {
		t.Errorf("of 12 validators %d propose in 600 slots", len(proposers))
	}
}

// P6.2: as many members as Committee says, each once, each a validator, with every Committee that can be.
func TestEachOnce(t *testing.T) {
	for n := 1; n <= 64; n++ {
		for size := 1; size <= min(n, 16); size++ {
			c := with(t, n, size)
			for _, slot := range []int{0, n * size, maxSlot} {
				got := board.Members(c, slot)
				seen := map[int]bool{}
				for _, who := range got {
					if who < 0 || who >= n || seen[who] {
						t.Errorf("%d of %d, slot %d: %d in %v", size, n, slot, who, got)
					}
					seen[who] = true
				}
				if len(got) != size {
					t.Errorf("%d of %d, slot %d: %v", size, n, slot, got)
				}
			}
		}
	}
}

// P6.2: a committee of as many as there are validators holds all of them.
func TestAllAreMembers(t *testing.T) {
	for n := 1; n <= 16; n++ {
		c := with(t, n, n)
		for _, slot := range slots() {
			got := slices.Sorted(slices.Values(board.Members(c, slot)))
			for who := range n {
				if len(got) != n || got[who] != who {
					t.Fatalf("%d validators, slot %d: %v", n, slot, got)
				}
			}
		}
	}
}

// P6.1: a lesser committee is the beginning of a greater one.
func TestLesserCommittee(t *testing.T) {
	for _, n := range []int{2, 16, 17, 64} {
		for _, slot := range slots() {
			most := board.Members(with(t, n, min(n, 16)), slot)
			for size := 1; size <= len(most); size++ {
				if got := board.Members(with(t, n, size), slot); !slices.Equal(got, most[:size]) {
					t.Errorf("%d of %d, slot %d: %v, want %v", size, n, slot, got, most[:size])
				}
			}
		}
	}
}

// P6.1: slots that differ in one of their four bytes alone, the highest too, have members of their own.
func TestEachByteOfASlot(t *testing.T) {
	c := with(t, 64, 16)
	for _, base := range []int{0, 5, 0x00abcdef} {
		var seen [][]int
		list := []int{base}
		for _, shift := range []int{0, 8, 16, 24} {
			for n := 1; n < 64; n++ {
				list = append(list, base^n<<shift)
			}
		}
		if base == 0 {
			list = append(list, maxSlot)
		}
		for _, slot := range list {
			got := board.Members(c, slot)
			if want := membersOf(64, 16, slot); !slices.Equal(got, want) {
				t.Errorf("slot %d: %v, want %v", slot, got, want)
			}
			if slices.ContainsFunc(seen, func(other []int) bool { return slices.Equal(got, other) }) {
				t.Errorf("slot %d: another one has the same members %v", slot, got)
			}
			seen = append(seen, got)
		}
	}
}

// P6.1: slots below 0 and above MaxSlot have no members, no proposer, and nobody to pick.
func TestSlotsWithout(t *testing.T) {
	for _, shape := range shapes() {
		c := with(t, shape[0], shape[1])
		for _, slot := range without() {
			if got := board.Members(c, slot); len(got) != 0 {
				t.Errorf("slot %d: %v", slot, got)
			}
			if got := board.Proposer(c, slot); got != -1 {
				t.Errorf("slot %d: %d proposes", slot, got)
			}
			for who := -1; who <= shape[0]; who++ {
				if got := board.Place(c, slot, who); got != -1 {
					t.Errorf("slot %d: %d stands at %d", slot, who, got)
				}
			}
			wantPick(t, c, slot, nil, nil, false)
			wantPick(t, c, slot, []bool{}, nil, false)
			for _, size := range []int{1, shape[1] - 1, shape[1], shape[1] + 1} {
				wantPick(t, c, slot, row(size, 0), nil, false)
				wantPick(t, c, slot, row(size, math.MaxUint), nil, false)
			}
		}
	}
}

// P6.1: where each validator stands, member or not.
func TestPlace(t *testing.T) {
	for _, shape := range shapes() {
		c := with(t, shape[0], shape[1])
		for _, slot := range slots() {
			members := membersOf(shape[0], shape[1], slot)
			for who := range shape[0] {
				if got, want := board.Place(c, slot, who), slices.Index(members, who); got != want {
					t.Errorf("%d of %d, slot %d: %d stands at %d, want %d", shape[1], shape[0], slot, who, got, want)
				}
			}
		}
	}
}

// P6.1: who is no validator stands nowhere, also if the lower bytes of its number are a member's.
func TestPlaceOfNobody(t *testing.T) {
	for _, shape := range shapes() {
		c := with(t, shape[0], shape[1])
		for _, slot := range []int{0, 1, maxSlot} {
			list := []int{-1, -2, -64, shape[0], shape[0] + 1, 64, 65, 1000, math.MinInt, math.MinInt + 1, math.MaxInt - 1, math.MaxInt}
			for _, member := range membersOf(shape[0], shape[1], slot) {
				list = append(list, member+1<<8, member+1<<16, member+1<<32, member-1<<8, member-1<<16, member-1<<32, member+math.MinInt)
			}
			for _, who := range list {
				if who >= 0 && who < shape[0] {
					continue
				}
				if got := board.Place(c, slot, who); got != -1 {
					t.Errorf("%d of %d, slot %d: %d stands at %d", shape[1], shape[0], slot, who, got)
				}
			}
		}
	}
}

// P6.1: the first member proposes.
func TestProposer(t *testing.T) {
	for _, shape := range shapes() {
		c := with(t, shape[0], shape[1])
		for _, slot := range slots() {
			who := board.Proposer(c, slot)
			if want := membersOf(shape[0], shape[1], slot)[0]; who != want || board.Place(c, slot, who) != 0 {
				t.Errorf("%d of %d, slot %d: %d proposes, want %d", shape[1], shape[0], slot, who, want)
			}
		}
	}
}

// P6.1: rows that say yes everywhere, nowhere, and at each one place.
func TestPick(t *testing.T) {
	for _, shape := range shapes() {
		n, size := shape[0], shape[1]
		c := with(t, n, size)
		for _, slot := range slots() {
			members := membersOf(n, size, slot)
			wantPick(t, c, slot, row(size, math.MaxUint), members, true)
			wantPick(t, c, slot, row(size, 0), nil, true)
			for i := range size {
				wantPick(t, c, slot, row(size, 1<<i), members[i:i+1], true)
				but := slices.Delete(slices.Clone(members), i, i+1)
				wantPick(t, c, slot, row(size, ^uint(1<<i)), but, true)
			}
		}
	}
}

// P6.1: every row of a committee of eight, and every row of one of two.
func TestPickEveryRow(t *testing.T) {
	for _, shape := range [][2]int{{2, 2}, {11, 8}} {
		c := with(t, shape[0], shape[1])
		members := membersOf(shape[0], shape[1], 42)
		for pattern := range uint(1) << shape[1] {
			bits := row(shape[1], pattern)
			var want []int
			for i, yes := range bits {
				if yes {
					want = append(want, members[i])
				}
			}
			wantPick(t, c, 42, bits, want, true)
		}
	}
}

// P6.1: rows that aren't as long as the committee: none, one shorter, one longer, as long as there are validators.
func TestPickOtherLengths(t *testing.T) {
	for _, shape := range shapes() {
		c := with(t, shape[0], shape[1])
		for _, slot := range []int{0, 1, 300, maxSlot} {
			wantPick(t, c, slot, nil, nil, false)
			wantPick(t, c, slot, []bool{}, nil, false)
			for _, size := range []int{shape[1] - 1, shape[1] + 1, shape[0], 2 * shape[1], 64, 65, 256, 1000} {
				if size == shape[1] {
					continue
				}
				for _, pattern := range []uint{0, 1, 0x5555, math.MaxUint} {
					wantPick(t, c, slot, row(size, pattern), nil, false)
				}
			}
		}
	}
}

// P6.1: stakes, keys, and numbers of which the chapter says nothing, play no part.
func TestOtherFields(t *testing.T) {
	a := with(t, 20, 7)
	b := api.Config{Epoch: 32, Committee: 7, Nodes: 256, Orphans: 64, Early: 64, Quota: 64, Peers: 16, Bytes: 256, Window: 64, Ban: 1 << 20, Decay: 1 << 20}
	for i := range 20 {
		b.Validators = append(b.Validators, api.Validator{Stake: 1<<57 - i, Key: strings.Repeat("\xff", 32-i)})
	}
	same := can(t, b)
	same.Validators = slices.Repeat([]api.Validator{{Stake: 0, Key: "k"}}, 20)
	for _, c := range []api.Config{can(t, b), can(t, same)} {
		for _, slot := range slots() {
			if got, want := board.Members(c, slot), board.Members(a, slot); !slices.Equal(got, want) {
				t.Errorf("slot %d: %v, want %v", slot, got, want)
			}
			for who := range 20 {
				if got, want := board.Place(c, slot, who), board.Place(a, slot, who); got != want {
					t.Errorf("slot %d: %d stands at %d, want %d", slot, who, got, want)
				}
			}
			want, _ := board.Pick(a, slot, row(7, 0x2d))
			wantPick(t, c, slot, row(7, 0x2d), want, true)
			if got, want := board.Proposer(c, slot), board.Proposer(a, slot); got != want {
				t.Errorf("slot %d: %d proposes, want %d", slot, got, want)
			}
		}
	}
}

// Rule 3: what is handed in is as it was, spare room included.
func TestHandedIn(t *testing.T) {
	c := with(t, 30, 9)
	room := slices.Concat(c.Validators, slices.Repeat([]api.Validator{{Stake: 77, Key: "spare"}}, 10))
	bits := row(30, 0x2f5a9c35)
	roomWas, bitsWas := slices.Clone(room), slices.Clone(bits)
	c.Validators = room[:30]
	was := c
	for _, slot := range append(slots(), without()...) {
		board.Members(c, slot)
		board.Proposer(c, slot)
		board.Place(c, slot, 3)
		for _, size := range []int{0, 8, 9, 10} {
			board.Pick(c, slot, bits[:size])
		}
	}
	if !reflect.DeepEqual(c, was) || !slices.Equal(room, roomWas) || !slices.Equal(bits, bitsWas) {
		t.Error("what was handed in is changed")
	}
}

// Rules 3 and 4: answers are new memory, and hang on the arguments alone.
func TestNewMemory(t *testing.T) {
	c := with(t, 30, 9)
	want := membersOf(30, 9, 8)
	yes := row(9, math.MaxUint)
	spoil := func(list []int) {
		list = list[:cap(list)]
		for i := range list {
			list[i] = -7
		}
	}
	first := board.Members(c, 8)
	picked, _ := board.Pick(c, 8, yes)
	spoil(board.Members(c, 8))
	spoil(board.Members(c, 9))
	again, _ := board.Pick(c, 8, yes)
	spoil(again)
	if !slices.Equal(first, want) || !slices.Equal(picked, want) {
		t.Errorf("earlier answers became %v, %v, want %v", first, picked, want)
	}
	spoil(first)
	if !slices.Equal(picked, want) {
		t.Errorf("what was picked became %v, want %v", picked, want)
	}
	spoil(picked)
	if got := board.Members(c, 8); !slices.Equal(got, want) || board.Proposer(c, 8) != want[0] || board.Place(c, 8, want[8]) != 8 {
		t.Errorf("later answers became %v, want %v", got, want)
	}
	wantPick(t, c, 8, yes, want, true)
}

// Rule 1: of configurations that can't be nothing is promised, but that calls end.
func TestConfigurationsThatCannotBe(t *testing.T) {
	for _, n := range []int{0, 1, 5, 65, 300} {
		for _, size := range []int{math.MinInt, -1, 0, 1, 6, 17, 301, math.MaxInt} {
			c := api.Config{Committee: size, Validators: make([]api.Validator, n)}
			for _, slot := range []int{-1, 0, maxSlot, maxSlot + 1} {
				board.Members(c, slot)
				board.Proposer(c, slot)
				board.Place(c, slot, 0)
				board.Pick(c, slot, nil)
				board.Pick(c, slot, []bool{true})
			}
		}
	}
}
