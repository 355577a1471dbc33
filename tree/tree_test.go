package tree_test

import (
	"math"
	"math/rand"
	"slices"
	"testing"

	"toller/api"
	"toller/tree"
)

const (
	maxNodes = 256
	maxSlot  = 1 << 30
)

// name answers a name, another one for each number.
func name(n int) api.Root {
	return api.Root{byte(n), byte(n >> 8), 31: byte(n) ^ 0x5a}
}

// names answers the names of some numbers.
func names(list ...int) []api.Root {
	var roots []api.Root
	for _, n := range list {
		roots = append(roots, name(n))
	}
	return roots
}

// extremes are numbers at the edges of ints, and such as would be others if only their lower bytes were taken.
func extremes() []int {
	return []int{
		math.MinInt, math.MinInt + 1, -1 << 62, -1 << 32, -1<<32 + 1, math.MinInt32, -maxSlot, -256, -2,
		maxSlot + 2, math.MaxInt32, 1 << 31, math.MaxUint32, 1 << 32, 1<<32 + 1, 1<<32 + 5, 1 << 62, math.MaxInt - 1, math.MaxInt,
	}
}

// block is a block of a model: its parent's name, and the names of all blocks above it, from the chapter's words alone.
type block struct {
	root, parent api.Root
	slot         int
	above        []api.Root
}

// model is what a tree should hold, in a row without a map; the first block's parent is its own name, that it doesn't stand below.
type model struct {
	blocks []block
	most   int
}

// find answers a block's place; -1, if it isn't there.
func (m *model) find(root api.Root) int {
	return slices.IndexFunc(m.blocks, func(b block) bool { return b.root == root })
}

// add answers what Add should, and lays the block behind all others if it may.
func (m *model) add(root, parent api.Root, slot int) api.Errno {
	if m.find(root) >= 0 {
		return api.ErrTwice
	}
	i := m.find(parent)
	if i < 0 || m.blocks[i].slot >= slot || slot > maxSlot {
		return api.ErrParent
	}
	if len(m.blocks) >= m.most {
		return api.ErrFull
	}
	m.blocks = append(m.blocks, block{root, parent, slot, append(slices.Clone(m.blocks[i].above), parent)})
	return api.OK
}

// below answers what Below should.
func (m *model) below(over, root api.Root) bool {
	i := m.find(root)
	return i >= 0 && (root == over || slices.Contains(m.blocks[i].above, over))
}

// roots answers what Roots should.
func (m *model) roots() []api.Root {
	var list []api.Root
	for _, b := range m.blocks {
		list = append(list, b.root)
	}
	return list
}

// kids answers what Kids should.
func (m *model) kids(root api.Root) []api.Root {
	var list []api.Root
	for i, b := range m.blocks {
		if i > 0 && b.parent == root {
			list = append(list, b.root)
		}
	}
	return list
}

// node answers what Node should.
func (m *model) node(i int) (tree.Node, bool) {
	if i < 0 || i >= len(m.blocks) {
		return tree.Node{Parent: -1}, false
	}
	b := m.blocks[i]
	if i == 0 {
		return tree.Node{Root: b.root, Slot: b.slot, Parent: -1}, true
	}
	return tree.Node{Root: b.root, Slot: b.slot, Parent: m.find(b.parent)}, true
}

// start answers a new tree, and its model.
func start(t *testing.T, root api.Root, slot, most int) (*tree.Tree, *model) {
	t.Helper()
	x, e := tree.New(root, slot, most)
	if x == nil || e != api.OK {
		t.Fatalf("New of the slot %d, with room for %d: %v, error %d", slot, most, x, e)
	}
	return x, &model{[]block{{root: root, parent: root, slot: slot}}, most}
}

// add adds a block to a tree, and to its model, whose error it must answer.
func add(t *testing.T, x *tree.Tree, m *model, root, parent api.Root, slot int) api.Errno {
	t.Helper()
	want := m.add(root, parent, slot)
	if got := x.Add(root, parent, slot); got != want {
		t.Fatalf("%d blocks, room for %d: Add of %x behind %x in the slot %d: %d, want %d", len(m.blocks), m.most, root, parent, slot, got, want)
	}
	return want
}

// strangers are names of which most aren't in the trees of these tests: a name of bytes 0 among them.
func strangers() []api.Root {
	return []api.Root{{}, {31: 1}, {0: 1}, {15: 1}, name(60000), name(65535)}
}

// same holds a tree against its model in all calls, but for Below.
func same(t *testing.T, x *tree.Tree, m *model) {
	t.Helper()
	if x.Len() != len(m.blocks) || x.Room() != m.most-len(m.blocks) {
		t.Fatalf("%d blocks, room for %d: Len is %d, Room is %d", len(m.blocks), m.most, x.Len(), x.Room())
	}
	if got := x.Roots(); !slices.Equal(got, m.roots()) {
		t.Fatalf("Roots are %x, want %x", got, m.roots())
	}
	for _, i := range append(extremes(), len(m.blocks), len(m.blocks)+1, m.most, m.most+1, maxNodes, maxNodes+1) {
		ofNode(t, x, m, i)
	}
	for i := -1; i <= len(m.blocks); i++ {
		ofNode(t, x, m, i)
	}
	for _, root := range append(m.roots(), strangers()...) {
		if got := x.Place(root); got != m.find(root) {
			t.Fatalf("the place of %x is %d, want %d", root, got, m.find(root))
		}
		if got := x.Kids(root); !slices.Equal(got, m.kids(root)) {
			t.Fatalf("the children of %x are %x, want %x", root, got, m.kids(root))
		}
	}
}

// ofNode holds the block at a place against the model's.
func ofNode(t *testing.T, x *tree.Tree, m *model, i int) {
	t.Helper()
	got, ok := x.Node(i)
	if want, is := m.node(i); got != want || ok != is {
		t.Fatalf("at the place %d: %v, %v, want %v, %v", i, got, ok, want, is)
	}
}

// ofBelow holds Below of these names, each with each, against the model's.
func ofBelow(t *testing.T, x *tree.Tree, m *model, list []api.Root) {
	t.Helper()
	for _, over := range list {
		for _, root := range list {
			if got, want := x.Below(over, root), m.below(over, root); got != want {
				t.Fatalf("Below(%x, %x) is %v", over, root, got)
			}
		}
	}
}

// all holds a tree against its model in all calls, twice, since no answer changes a tree.
func all(t *testing.T, x *tree.Tree, m *model) {
	t.Helper()
	list := append(m.roots(), strangers()...)
	for range 2 {
		same(t, x, m)
		ofBelow(t, x, m, list)
		same(t, x, m)
	}
}

// P10.1: the chapter's example: a block in its parent's slot is refused.
func TestExample(t *testing.T) {
	x, m := start(t, name(1), 4, 9)
	if e := x.Add(name(2), name(1), 4); e != api.ErrParent {
		t.Errorf("in the first block's slot: %d", e)
	}
	add(t, x, m, name(2), name(1), 5)
	if e := x.Add(name(3), name(2), 5); e != api.ErrParent {
		t.Errorf("in its parent's slot: %d", e)
	}
	all(t, x, m)
}

// P10.1: New takes a most from 1 to MaxNodes, and a slot from 0 to MaxSlot; else it answers ErrArg, and a nil tree.
func TestNew(t *testing.T) {
	mosts := map[int]bool{-257: false, -256: false, -1: false, 0: false, 1: true, 2: true, 3: true, 64: true, 100: true, 254: true, 255: true, 256: true, 257: false, 258: false, 511: false, 512: false, 513: false, maxSlot: false, 1<<32 + 256: false}
	slots := map[int]bool{-maxSlot - 1: false, -5: false, -1: false, 0: true, 1: true, 2: true, 255: true, 256: true, 65536: true, maxSlot - 1: true, maxSlot: true, maxSlot + 1: false}
	for _, n := range extremes() {
		mosts[n], slots[n] = false, false
	}
	for most, mostCan := range mosts {
		for slot, slotCan := range slots {
			for _, root := range []api.Root{name(1), {}} {
				if mostCan && slotCan {
					x, m := start(t, root, slot, most)
					same(t, x, m)
					continue
				}
				if x, e := tree.New(root, slot, most); x != nil || e != api.ErrArg {
					t.Errorf("New of the slot %d, with room for %d: %v, %d", slot, most, x, e)
				}
			}
		}
	}
}

// P10.1: trees of one block: it is the first one, at the place 0, without a parent, children or anything else.
func TestOneBlock(t *testing.T) {
	for _, most := range []int{1, 2, 3, 255, 256} {
		for _, slot := range []int{0, 1, 77, maxSlot - 1, maxSlot} {
			x, m := start(t, name(7), slot, most)
			all(t, x, m)
			if x.Len() != 1 || x.Room() != most-1 || x.Place(name(7)) != 0 || x.Place(name(8)) != -1 {
				t.Errorf("Len %d, Room %d, places %d, %d", x.Len(), x.Room(), x.Place(name(7)), x.Place(name(8)))
			}
			if n, ok := x.Node(0); !ok || n != (tree.Node{Root: name(7), Slot: slot, Parent: -1}) {
				t.Errorf("%v, %v", n, ok)
			}
			if !x.Below(name(7), name(7)) || x.Below(name(7), name(8)) || x.Below(name(8), name(7)) || len(x.Kids(name(7))) != 0 {
				t.Error("another block in a tree of one")
			}
		}
	}
}

// P10.1: a tree of some blocks, written out.
func TestWrittenOut(t *testing.T) {
	x, m := start(t, name(10), 3, 8)
	for _, c := range []struct{ root, parent, slot int }{{11, 10, 4}, {12, 10, 9}, {13, 11, 5}, {14, 12, 10}, {15, 10, 4}, {16, 11, 30}} {
		if e := add(t, x, m, name(c.root), name(c.parent), c.slot); e != api.OK {
			t.Fatalf("%v: %d", c, e)
		}
	}
	if x.Len() != 7 || x.Room() != 1 {
		t.Errorf("Len %d, Room %d", x.Len(), x.Room())
	}
	for i, want := range []tree.Node{
		{Root: name(10), Slot: 3, Parent: -1}, {Root: name(11), Slot: 4, Parent: 0}, {Root: name(12), Slot: 9, Parent: 0}, {Root: name(13), Slot: 5, Parent: 1},
		{Root: name(14), Slot: 10, Parent: 2}, {Root: name(15), Slot: 4, Parent: 0}, {Root: name(16), Slot: 30, Parent: 1},
	} {
		if n, ok := x.Node(i); !ok || n != want || x.Place(want.Root) != i {
			t.Errorf("at the place %d: %v, %v; its own place is %d", i, n, ok, x.Place(want.Root))
		}
	}
	for root, want := range map[int][]int{10: {11, 12, 15}, 11: {13, 16}, 12: {14}, 13: nil, 14: nil, 15: nil, 16: nil, 17: nil} {
		if got := x.Kids(name(root)); !slices.Equal(got, names(want...)) {
			t.Errorf("the children of %d are %x", root, got)
		}
	}
	if got := x.Roots(); !slices.Equal(got, names(10, 11, 12, 13, 14, 15, 16)) {
		t.Errorf("all blocks are %x", got)
	}
	for root, above := range map[int][]int{10: {10}, 11: {10, 11}, 12: {10, 12}, 13: {10, 11, 13}, 14: {10, 12, 14}, 15: {10, 15}, 16: {10, 11, 16}, 17: nil} {
		for over := range 20 {
			if got := x.Below(name(over), name(root)); got != slices.Contains(above, over) {
				t.Errorf("Below(%d, %d) is %v", over, root, got)
			}
		}
	}
	all(t, x, m)
}

// P10.1: trees with as many blocks as most says; one more than that is refused, and nothing else changes.
func TestFull(t *testing.T) {
	for _, most := range []int{1, 2, 3, 7, 64, 255, 256} {
		x, m := start(t, name(0), 0, most)
		for i := 1; i < most; i++ {
			if x.Room() != most-i || x.Len() != i {
				t.Fatalf("room for %d: Len %d, Room %d", most, x.Len(), x.Room())
			}
			if e := add(t, x, m, name(i), name((i-1)/2), i); e != api.OK {
				t.Fatalf("room for %d: block %d: %d", most, i, e)
			}
		}
		if x.Room() != 0 || x.Len() != most {
			t.Fatalf("room for %d: Len %d, Room %d", most, x.Len(), x.Room())
		}
		for _, parent := range []int{0, most / 2, most - 1} {
			for range 2 {
				if e := x.Add(name(most), name(parent), most+5); e != api.ErrFull {
					t.Errorf("room for %d: one block more, behind %d: %d", most, parent, e)
				}
			}
		}
		all(t, x, m)
		if x.Place(name(most)) != -1 || slices.Contains(x.Kids(name(most-1)), name(most)) {
			t.Errorf("room for %d: one block more is there", most)
		}
	}
}

// P10.1: Node at -1, at each place, at Len and behind it, and at the edges of ints.
func TestNode(t *testing.T) {
	x, m := start(t, name(1), 0, 6)
	for i := 2; i <= 6; i++ {
		for _, at := range append(extremes(), -1, x.Len(), x.Len()+1, 6, 7, 255, 256, 257) {
			if at >= 0 && at < x.Len() {
				continue
			}
			if n, ok := x.Node(at); ok || n != (tree.Node{Parent: -1}) {
				t.Errorf("%d blocks, at the place %d: %v, %v", x.Len(), at, n, ok)
			}
		}
		for at := range x.Len() {
			if n, ok := x.Node(at); !ok || n.Root != name(at+1) || n.Slot != 3*at || n.Parent != at-1 {
				t.Errorf("%d blocks, at the place %d: %v, %v", x.Len(), at, n, ok)
			}
		}
		add(t, x, m, name(i), name(i-1), 3*(i-1))
	}
	all(t, x, m)
}

// P10.1: what Add answers of each block, good or not, one behind the other.
func TestAdd(t *testing.T) {
	x, m := start(t, name(1), 2, 5)
	for i, c := range []struct {
		root, parent, slot int
		want               api.Errno
	}{
		{1, 1, 3, api.ErrTwice}, // the first block
		{1, 9, 3, api.ErrTwice},
		{2, 9, 3, api.ErrParent}, // no such parent
		{2, 2, 3, api.ErrParent}, // behind itself
		{2, 1, 2, api.ErrParent}, // in its parent's slot
		{2, 1, 1, api.ErrParent}, // in an earlier one
		{2, 1, 0, api.ErrParent},
		{2, 1, -1, api.ErrParent},
		{2, 1, 3, api.OK}, // one above it
		{2, 1, 3, api.ErrTwice},
		{2, 1, 4, api.ErrTwice},
		{3, 2, 3, api.ErrParent},
		{3, 2, maxSlot + 1, api.ErrParent},
		{3, 2, maxSlot, api.OK},
		{4, 3, maxSlot, api.ErrParent},
		{4, 3, maxSlot + 1, api.ErrParent}, // no slot is left behind the last one
		{4, 3, math.MaxInt, api.ErrParent},
		{4, 2, maxSlot - 1, api.OK},
		{5, 4, maxSlot, api.OK},
		{6, 1, 3, api.ErrFull},
		{5, 1, 3, api.ErrTwice},
		{6, 6, 3, api.ErrParent},
	} {
		if got := add(t, x, m, name(c.root), name(c.parent), c.slot); got != c.want {
			t.Errorf("%d: %d", i, got)
		}
		all(t, x, m)
	}
}

// P10.1: slots around the parent's and around MaxSlot, and at the edges of ints.
func TestSlots(t *testing.T) {
	for _, first := range []int{0, 1, 2, 100, 255, 256, 65535, maxSlot - 2, maxSlot - 1, maxSlot} {
		for _, slot := range append(extremes(), -1, 0, 1, first-1, first, first+1, first+2, 1<<32+first+1, maxSlot-1, maxSlot, maxSlot+1, maxSlot+2) {
			x, m := start(t, name(1), first, 3)
			want := api.ErrParent
			if first+1 <= slot && slot <= maxSlot {
				want = api.OK
			}
			if got := add(t, x, m, name(2), name(1), slot); got != want {
				t.Errorf("the slot %d behind %d: %d", slot, first, got)
			}
			all(t, x, m)
		}
	}
}

// P10.1: where several errors apply, Add answers the one that the chapter names first; and nothing changes.
func TestFirstError(t *testing.T) {
	for _, most := range []int{3, 4} { // without room, and with some
		x, m := start(t, name(1), 5, most)
		add(t, x, m, name(2), name(1), 6)
		add(t, x, m, name(3), name(2), 8)
		for i, c := range []struct {
			root, parent, slot int
			want               api.Errno
		}{
			{1, 9, 6, api.ErrTwice}, {2, 9, 6, api.ErrTwice}, {3, 9, 9, api.ErrTwice}, // there already, and no such parent
			{1, 1, 6, api.ErrTwice}, {2, 2, 7, api.ErrTwice}, {3, 3, 9, api.ErrTwice}, // there already, behind itself
			{1, 3, 9, api.ErrTwice}, {2, 3, 9, api.ErrTwice}, // there already, behind what stands below it
			{2, 1, 5, api.ErrTwice}, {3, 2, 0, api.ErrTwice}, {3, 2, maxSlot + 1, api.ErrTwice}, {3, 2, math.MinInt, api.ErrTwice}, // there already, in a wrong slot
			{1, 9, -1, api.ErrTwice}, {3, 9, maxSlot + 1, api.ErrTwice}, // all of these
			{4, 9, 9, api.ErrParent}, {4, 9, 0, api.ErrParent}, {4, 4, 9, api.ErrParent}, // no such parent
			{4, 3, 8, api.ErrParent}, {4, 1, 4, api.ErrParent}, {4, 3, maxSlot + 1, api.ErrParent}, {4, 1, math.MaxInt, api.ErrParent}, // a wrong slot
		} {
			if got := x.Add(name(c.root), name(c.parent), c.slot); got != c.want {
				t.Errorf("room for %d: %d: %d", x.Room(), i, got)
			}
			all(t, x, m)
		}
		want := api.ErrFull
		if most == 4 {
			want = api.OK
		}
		if got := add(t, x, m, name(4), name(3), 9); got != want {
			t.Errorf("room for %d: %d", most, got)
		}
		all(t, x, m)
	}
}

// P10.1: a block that was refused, in whatever way, may be added behind that.
func TestMadeGood(t *testing.T) {
	x, m := start(t, name(1), 0, 4)
	add(t, x, m, name(3), name(2), 9)         // its parent isn't there yet
	add(t, x, m, name(2), name(1), 0)         // a wrong slot
	add(t, x, m, name(2), name(1), maxSlot+1) // another wrong slot
	add(t, x, m, name(2), name(2), 4)         // behind itself
	same(t, x, m)
	for _, c := range []struct{ root, parent, slot int }{{2, 1, 4}, {3, 2, 9}, {4, 3, 10}} {
		if e := add(t, x, m, name(c.root), name(c.parent), c.slot); e != api.OK {
			t.Errorf("%v: %d", c, e)
		}
		all(t, x, m)
	}
	if e := x.Add(name(5), name(1), 4); e != api.ErrFull { // a refused block leaves no trace behind which another one could stand
		t.Errorf("without room: %d", e)
	}
	if e := x.Add(name(6), name(5), 9); e != api.ErrParent {
		t.Errorf("behind a block that was refused: %d", e)
	}
	all(t, x, m)
}

// shapes are trees, each block told by its parent's number: chains, stars, and trees with branches.
func shapes(size int) map[string][]int {
	list := map[string][]int{"chain": {-1}, "star": {-1}, "two": {-1}, "binary": {-1}, "comb": {-1}, "broom": {-1}, "wild": {-1}}
	r := rand.New(rand.NewSource(10))
	for i := 1; i < size; i++ {
		list["chain"] = append(list["chain"], i-1)
		list["star"] = append(list["star"], 0)
		list["two"] = append(list["two"], max(i-2, 0))
		list["binary"] = append(list["binary"], (i-1)/2)
		list["comb"] = append(list["comb"], i-1-(i+1)%2)
		list["broom"] = append(list["broom"], min(i-1, size/2))
		list["wild"] = append(list["wild"], r.Intn(i))
	}
	return list
}

// depths answers how far each block is from the first one.
func depths(parents []int) []int {
	list := []int{0}
	for _, p := range parents[1:] {
		list = append(list, list[p]+1)
	}
	return list
}

// grow builds a tree of that shape, in some order in which parents come ahead; what it answers is held against the model.
func grow(t *testing.T, parents []int, r *rand.Rand) (*tree.Tree, *model) {
	t.Helper()
	slots := depths(parents)
	x, m := start(t, name(0), 0, len(parents))
	there, left := map[int]bool{0: true}, r.Perm(len(parents))
	for len(there) < len(parents) {
		for _, i := range left {
			if i == 0 || there[i] || !there[parents[i]] {
				continue
			}
			if e := add(t, x, m, name(i), name(parents[i]), 7*slots[i]); e != api.OK {
				t.Fatalf("block %d: %d", i, e)
			}
			there[i] = true
		}
	}
	return x, m
}

// P10.1, P10.2: chains, stars, and trees with branches, in unlike orders: which block stands below which doesn't hang on the order.
func TestShapes(t *testing.T) {
	r := rand.New(rand.NewSource(11))
	for _, size := range []int{1, 2, 3, 5, 12, 33} {
		for shape, parents := range shapes(size) {
			var firstOne *tree.Tree
			for range 8 {
				x, m := grow(t, parents, r)
				all(t, x, m)
				lawful(t, x)
				if firstOne == nil {
					firstOne = x
				}
				for a := range size {
					for b := range size {
						if x.Below(name(a), name(b)) != firstOne.Below(name(a), name(b)) {
							t.Fatalf("%s of %d: Below(%d, %d) hangs on the order", shape, size, a, b)
						}
					}
				}
			}
		}
	}
}

// P10.1: the greatest trees: chains, stars, and trees with branches, of 256 blocks.
func TestGreatest(t *testing.T) {
	r := rand.New(rand.NewSource(12))
	for shape, parents := range shapes(maxNodes) {
		x, m := grow(t, parents, r)
		if x.Len() != maxNodes || x.Room() != 0 {
			t.Errorf("%s: Len %d, Room %d", shape, x.Len(), x.Room())
		}
		all(t, x, m)
		lawful(t, x)
		add(t, x, m, name(maxNodes), name(0), maxSlot)
		same(t, x, m)
	}
}

// P10.1: all orders in which five blocks may come.
func TestAllOrders(t *testing.T) {
	for shape, parents := range shapes(5) {
		slots := depths(parents)
		count := 0
		var order func(done []int)
		order = func(done []int) {
			if len(done) == len(parents) {
				x, m := start(t, name(0), 0, len(parents))
				for _, i := range done[1:] {
					add(t, x, m, name(i), name(parents[i]), slots[i])
				}
				all(t, x, m)
				lawful(t, x)
				if !slices.Equal(x.Roots(), names(done...)) {
					t.Fatalf("%s: came in the order %v, are %x", shape, done, x.Roots())
				}
				count++
				return
			}
			for i := range parents {
				if !slices.Contains(done, i) && slices.Contains(done, parents[i]) {
					order(append(slices.Clone(done), i))
				}
			}
		}
		order([]int{0})
		if count == 0 {
			t.Errorf("%s: no order", shape)
		}
	}
}

// P10.1: names that differ in one byte alone, whichever it is, and in one bit of it, are others.
func TestNames(t *testing.T) {
	for _, base := range []api.Root{{}, name(4711)} {
		x, m := start(t, base, 0, maxNodes)
		for i := range base {
			for k, bit := range []byte{1, 0x80} {
				other := base
				other[i] ^= bit
				if x.Place(other) != -1 || x.Below(base, other) || x.Below(other, base) || len(x.Kids(other)) != 0 {
					t.Fatalf("byte %d: a block that isn't there", i)
				}
				if e := x.Add(name(9999), other, 9); e != api.ErrParent {
					t.Fatalf("byte %d: behind a block that isn't there: %d", i, e)
				}
				if e := add(t, x, m, other, base, i+1); e != api.OK || x.Place(other) != 2*i+k+1 {
					t.Fatalf("byte %d: %d, at the place %d", i, e, x.Place(other))
				}
			}
		}
		all(t, x, m)
	}
}

// P10.1: names that differ in their first byte alone, or in their last, as parents and children of each other.
func TestNamesOfParents(t *testing.T) {
	for _, at := range []int{0, 31} {
		of := func(n int) api.Root {
			r := name(300)
			r[at] = byte(n)
			return r
		}
		x, m := start(t, of(0), 0, 40)
		for i := 1; i < 40; i++ {
			add(t, x, m, of(i), of(i/2), i)
		}
		all(t, x, m)
		for i := range 40 {
			if x.Place(of(i)) != i || x.Place(of(i+40)) != -1 {
				t.Errorf("byte %d: the place of %d is %d, that of one that isn't there %d", at, i, x.Place(of(i)), x.Place(of(i+40)))
			}
		}
	}
}

// P10.1: the name of 32 bytes 0 is a name like others: where no block has it, of the first block, and of another one.
func TestZeroName(t *testing.T) {
	var zero api.Root
	x, m := start(t, name(1), 0, 5)
	add(t, x, m, name(2), name(1), 1)
	if x.Place(zero) != -1 || len(x.Kids(zero)) != 0 || x.Below(zero, zero) || x.Below(zero, name(2)) || x.Below(name(1), zero) {
		t.Error("the name of bytes 0 is there")
	}
	if e := add(t, x, m, name(3), zero, 2); e != api.ErrParent {
		t.Errorf("behind it: %d", e)
	}
	if e := add(t, x, m, zero, zero, 2); e != api.ErrParent {
		t.Errorf("itself behind it: %d", e)
	}
	if e := add(t, x, m, zero, name(2), 2); e != api.OK || x.Place(zero) != 2 {
		t.Errorf("behind another one: %d", e)
	}
	if e := add(t, x, m, zero, name(1), 2); e != api.ErrTwice {
		t.Errorf("again: %d", e)
	}
	if e := add(t, x, m, name(4), zero, 3); e != api.OK || !slices.Equal(x.Kids(zero), names(4)) || !x.Below(zero, name(4)) {
		t.Errorf("a child of it: %d", e)
	}
	all(t, x, m)

	x, m = start(t, zero, 0, 3)
	if n, ok := x.Node(0); !ok || n != (tree.Node{Parent: -1}) || x.Place(zero) != 0 {
		t.Errorf("as the first one: %v, %v", n, ok)
	}
	if e := add(t, x, m, zero, zero, 1); e != api.ErrTwice {
		t.Errorf("as the first one, again: %d", e)
	}
	add(t, x, m, name(1), zero, 1)
	add(t, x, m, name(2), name(1), 2)
	all(t, x, m)
}

// P10.1: Below of blocks and themselves, of parents and children, of blocks side by side, and of names that aren't there.
func TestBelow(t *testing.T) {
	x, m := start(t, name(1), 0, 9)
	for _, c := range [][2]int{{2, 1}, {3, 1}, {4, 2}, {5, 2}, {6, 3}, {7, 6}} {
		add(t, x, m, name(c[0]), name(c[1]), c[0])
	}
	for _, c := range []struct {
		over, root int
		want       bool
	}{
		{1, 1, true}, {2, 2, true}, {4, 4, true}, {7, 7, true}, // itself
		{1, 2, true}, {1, 3, true}, {2, 4, true}, {2, 5, true}, {3, 6, true}, {6, 7, true}, // its parent
		{1, 4, true}, {1, 5, true}, {1, 6, true}, {1, 7, true}, {3, 7, true}, // further up
		{2, 1, false}, {3, 1, false}, {4, 2, false}, {7, 6, false}, {4, 1, false}, {7, 1, false}, {7, 3, false}, // the other way
		{2, 3, false}, {3, 2, false}, {4, 5, false}, {5, 4, false}, {4, 6, false}, {4, 7, false}, {7, 4, false}, {2, 6, false}, {3, 4, false}, // side by side
		{8, 1, false}, {8, 7, false}, {1, 8, false}, {7, 8, false}, {8, 8, false}, {8, 9, false}, {9, 8, false}, // not there
	} {
		for range 2 {
			if got := x.Below(name(c.over), name(c.root)); got != c.want {
				t.Errorf("Below(%d, %d) is %v", c.over, c.root, got)
			}
		}
	}
	all(t, x, m)
}

// P10.1: Kids of leaves, of blocks with one child and with many, in the order in which they came, and of a name that isn't there.
func TestKids(t *testing.T) {
	x, m := start(t, name(50), 0, 100)
	if got := x.Kids(name(50)); len(got) != 0 {
		t.Errorf("of a single block: %x", got)
	}
	add(t, x, m, name(40), name(50), 9)
	var many []api.Root
	for i := 30; i > 0; i-- { // neither their names nor their slots rise
		add(t, x, m, name(i), name(40), 10+i*i%31)
		many = append(many, name(i))
		if got := x.Kids(name(40)); !slices.Equal(got, many) {
			t.Fatalf("%x, want %x", got, many)
		}
		if i%3 == 0 {
			add(t, x, m, name(60+i), name(50), 1)
		}
	}
	if got := x.Kids(name(50)); !slices.Equal(got, names(40, 90, 87, 84, 81, 78, 75, 72, 69, 66, 63)) {
		t.Errorf("of the first block: %x", got)
	}
	add(t, x, m, name(99), name(7), 50)
	if got := x.Kids(name(7)); !slices.Equal(got, names(99)) {
		t.Errorf("one child: %x", got)
	}
	for _, leaf := range []int{1, 30, 66, 99} {
		if got := x.Kids(name(leaf)); len(got) != 0 {
			t.Errorf("of a leaf: %x", got)
		}
	}
	for _, root := range append(strangers(), name(100), name(0)) {
		if got := x.Kids(root); len(got) != 0 {
			t.Errorf("of a name that isn't there: %x", got)
		}
	}
	all(t, x, m)
}

// P10.1: Roots are all blocks in the order in which they came, whatever their names, slots and parents.
func TestRoots(t *testing.T) {
	x, m := start(t, name(500), 0, 256)
	want := names(500)
	for i := range 255 {
		if got := x.Roots(); !slices.Equal(got, want) {
			t.Fatalf("%x, want %x", got, want)
		}
		n := i * 101 % 256
		add(t, x, m, name(n), want[i*7%len(want)], 1+i)
		x.Add(name(n), name(500), 9)   // once more
		x.Add(name(700), name(701), 9) // without a parent
		x.Add(name(700), name(500), 0) // in a wrong slot
		want = append(want, name(n))
	}
	if got := x.Roots(); len(got) != 256 || !slices.Equal(got, want) {
		t.Errorf("%x, want %x", got, want)
	}
	same(t, x, m)
}

// lawful holds what P10.2 says, and what follows of "below", against a tree's own answers.
func lawful(t *testing.T, x *tree.Tree) {
	t.Helper()
	for i, root := range x.Roots() {
		n, ok := x.Node(i)
		if !ok || n.Root != root || x.Place(root) != i {
			t.Fatalf("at the place %d: %v, %v, whose own place is %d", i, n, ok, x.Place(root))
		}
		if i == 0 {
			if n.Parent != -1 {
				t.Fatalf("the first block's parent is %d", n.Parent)
			}
			continue
		}
		p, ok := x.Node(n.Parent)
		if !ok || n.Parent < 0 || n.Parent >= i || x.Place(p.Root) >= x.Place(root) || p.Slot >= n.Slot {
			t.Fatalf("the block at the place %d, of the slot %d, has the parent %d, of the slot %d", i, n.Slot, n.Parent, p.Slot)
		}
		if !x.Below(p.Root, root) || x.Below(root, p.Root) || !slices.Contains(x.Kids(p.Root), root) {
			t.Fatalf("the block at the place %d and its parent don't stand below each other as they should", i)
		}
	}
	lawfulBelow(t, x)
}

// lawfulBelow: two blocks that stand below each other are the same; of three of which each stands below the next, the first stands below the last.
func lawfulBelow(t *testing.T, x *tree.Tree) {
	t.Helper()
	roots := x.Roots()
	list := make([][]int, len(roots)) // of each block the places of those that stand below it
	for i, over := range roots {
		for k, root := range roots {
			if !x.Below(over, root) {
				continue
			}
			if i > k || (i != k && x.Below(root, over)) {
				t.Fatalf("the blocks at %d and %d stand below each other", i, k)
			}
			list[i] = append(list[i], k)
		}
		if !slices.Contains(list[i], i) {
			t.Fatalf("the block at %d doesn't stand below itself", i)
		}
	}
	if len(roots) > 40 {
		return // threes of a great tree are too many
	}
	for a := range list {
		for _, b := range list[a] {
			for _, c := range list[b] {
				if !slices.Contains(list[a], c) {
					t.Fatalf("%d stands below %d, and that below %d, but the first not below the last", c, b, a)
				}
				if x.Below(roots[c], roots[a]) && (a != b || b != c) {
					t.Fatalf("%d, %d and %d stand below each other in a ring", a, b, c)
				}
			}
		}
	}
}

// P10.2: parents' places and slots below their children's, and no two blocks below each other, behind every call, refused ones too.
func TestLawful(t *testing.T) {
	x, m := start(t, name(1), 3, 6)
	for _, c := range []struct{ root, parent, slot int }{
		{2, 3, 4}, {3, 2, 5}, {2, 1, 9}, {1, 2, 10}, {3, 2, 9}, {3, 2, 10}, {2, 3, 11}, {1, 3, 11}, {4, 4, 5}, {4, 3, 4}, {4, 1, 4}, {3, 4, 20}, {5, 3, 12}, {6, 5, 13}, {5, 6, 14}, {7, 6, 15},
	} {
		add(t, x, m, name(c.root), name(c.parent), c.slot)
		lawful(t, x)
		same(t, x, m)
	}
	if x.Len() != 6 {
		t.Errorf("%d blocks", x.Len())
	}
}

// Rule 3: lists of answers that are written into, in their spare room too, change nothing in the tree, nor in other answers.
func TestAnswersAreNew(t *testing.T) {
	x, m := start(t, name(1), 0, 30)
	for i := 2; i <= 20; i++ {
		add(t, x, m, name(i), name(1+i%3), i)
	}
	spoil := func(list []api.Root) {
		list = list[:cap(list)]
		for i := range list {
			list[i] = name(1000 + i)
		}
	}
	for i := 1; i <= 20; i++ {
		kept, other := x.Kids(name(i)), x.Kids(name(i))
		before := slices.Clone(kept)
		spoil(other)
		if !slices.Equal(kept, before) || !slices.Equal(x.Kids(name(i)), before) {
			t.Errorf("the children of %d are others", i)
		}
		keptRoots, otherRoots := x.Roots(), x.Roots()
		spoil(otherRoots)
		if !slices.Equal(keptRoots, m.roots()) {
			t.Error("all blocks are others")
		}
		spoil(kept)
		spoil(keptRoots)
		all(t, x, m)
	}
	kids, roots := x.Kids(name(1)), x.Roots()
	wereKids, wereRoots := slices.Clone(kids), slices.Clone(roots)
	for i := 21; i <= 30; i++ { // nor does what comes later change an earlier answer
		add(t, x, m, name(i), name(1), 40)
	}
	if !slices.Equal(kids, wereKids) || !slices.Equal(roots, wereRoots) {
		t.Error("an earlier answer is another one")
	}
	n, _ := x.Node(3)
	n.Root, n.Slot, n.Parent = name(77), 99, 5
	all(t, x, m)
}

// Rule 4: two trees know nothing of one another.
func TestSideBySide(t *testing.T) {
	a, ofA := start(t, name(1), 0, 20)
	b, ofB := start(t, name(1), 5, 3)
	again, ofAgain := start(t, name(1), 0, 20)
	if a == b || a == again {
		t.Fatal("New answers a tree that was there already")
	}
	for i := 2; i < 25; i++ {
		add(t, a, ofA, name(i), name(i-1), i)
		add(t, b, ofB, name(i), name(1+i%2), 2*i)
		all(t, a, ofA)
		all(t, b, ofB)
		all(t, again, ofAgain)
		if _, e := tree.New(name(i), 7, 2); e != api.OK {
			t.Fatal(e)
		}
	}
	if a.Len() != 20 || b.Len() != 3 || again.Len() != 1 {
		t.Errorf("%d, %d and %d blocks", a.Len(), b.Len(), again.Len())
	}
}

// P10.1: a nil tree answers -1, 0, false, nothing and ErrNil, whatever it is asked.
func TestNil(t *testing.T) {
	var x *tree.Tree
	for range 2 {
		if x.Len() != 0 || x.Room() != 0 || len(x.Roots()) != 0 {
			t.Errorf("Len %d, Room %d, Roots %x", x.Len(), x.Room(), x.Roots())
		}
		for _, i := range append(extremes(), -1, 0, 1, 2, 255, 256) {
			if n, ok := x.Node(i); ok || n != (tree.Node{Parent: -1}) {
				t.Errorf("at the place %d: %v, %v", i, n, ok)
			}
		}
		for _, a := range append(strangers(), name(1)) {
			if x.Place(a) != -1 || len(x.Kids(a)) != 0 {
				t.Errorf("of %x: %d, %x", a, x.Place(a), x.Kids(a))
			}
			for _, b := range append(strangers(), name(1)) {
				if x.Below(a, b) {
					t.Errorf("Below(%x, %x) is true", a, b)
				}
				for _, slot := range append(extremes(), -1, 0, 1, maxSlot, maxSlot+1) {
					if e := x.Add(a, b, slot); e != api.ErrNil {
						t.Errorf("Add of the slot %d: %d", slot, e)
					}
				}
			}
		}
	}
}

// P10.1, P10.2: calls as they come, good and wrong ones, of trees of every kind.
func TestMixed(t *testing.T) {
	r := rand.New(rand.NewSource(13))
	for round := range 300 {
		most, kinds, slots := 1+r.Intn(24), 2+r.Intn(30), 2+r.Intn(40)
		x, m := start(t, name(r.Intn(kinds)), r.Intn(3), most)
		for range 80 {
			add(t, x, m, name(r.Intn(kinds)), name(r.Intn(kinds)), r.Intn(slots)-1)
			if round%10 == 0 {
				same(t, x, m)
			}
		}
		all(t, x, m)
		lawful(t, x)
	}
}

// P10.1: what Add, and all other calls, answer doesn't hang on which calls were made ahead of them, but for blocks that were added.
func TestEveryOrder(t *testing.T) {
	asks := []func(*testing.T, *tree.Tree, *model){
		func(t *testing.T, x *tree.Tree, m *model) { ofNode(t, x, m, x.Len()-1); ofNode(t, x, m, x.Len()) },
		func(t *testing.T, x *tree.Tree, m *model) { ofBelow(t, x, m, names(0, 1, 2, 3, 9)) },
		func(t *testing.T, x *tree.Tree, m *model) { same(t, x, m) },
		func(t *testing.T, x *tree.Tree, m *model) {
			add(t, x, m, name(3), name(9), 3)
			add(t, x, m, name(0), name(1), 3)
			add(t, x, m, name(1), name(0), 0)
		},
		func(t *testing.T, x *tree.Tree, m *model) { x.Kids(name(0)); x.Roots(); x.Place(name(5)) },
	}
	r := rand.New(rand.NewSource(14))
	for range 120 {
		x, m := start(t, name(0), 0, 4)
		for i := 1; i <= 5; i++ {
			for _, k := range r.Perm(len(asks)) {
				asks[k](t, x, m)
			}
			add(t, x, m, name(i), name(i/2), i)
		}
		all(t, x, m)
	}
}
