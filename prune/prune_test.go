package prune_test

import (
	"bytes"
	"math/rand"
	"slices"
	"strconv"
	"testing"

	"toller/api"
	"toller/prune"
	"toller/tree"
	"toller/weigh"
)

const (
	maxStake = 1 << 62
	maxNodes = 256
	maxSlot  = 1 << 30
)

// name answers a name, another one for each number; of two that aren't above 255 the greater number's is the greater name.
func name(n int) api.Root {
	return api.Root{byte(n), byte(n >> 8), 31: byte(n) ^ 0x5a}
}

// names answers the names of some numbers.
func names(list ...int) []api.Root {
	var roots []api.Root
	for _, n := range list {
		roots = append(roots, name(n))
	}
	return roots
}

// block is a block of a model: its name, its parent's, its slot, its own weight, and whether its weights know it.
// The first block's parent is its own name; that it doesn't stand below itself is said where it is asked.
type block struct {
	root, parent api.Root
	slot, own    int
	known        bool
}

// model is what a tree and its weights should hold, in a row, by the chapters' words alone.
type model struct {
	blocks []block
	most   int
}

// find answers a block's place; -1, if it isn't there.
func (m *model) find(root api.Root) int {
	return slices.IndexFunc(m.blocks, func(b block) bool { return b.root == root })
}

// kids answers the children of a block, in the order in which they came.
func (m *model) kids(root api.Root) []api.Root {
	var list []api.Root
	for i, b := range m.blocks {
		if i > 0 && b.parent == root {
			list = append(list, b.root)
		}
	}
	return list
}

// weights answers what each block weighs: its own weight, and what its children weigh.
func (m *model) weights() map[api.Root]int {
	list := map[api.Root]int{}
	var of func(b block) int
	of = func(b block) int {
		sum := b.own
		for _, kid := range m.kids(b.root) {
			sum += of(m.blocks[m.find(kid)])
		}
		list[b.root] = sum
		return sum
	}
	of(m.blocks[0])
	return list
}

// best answers the best child of a block by what all weigh, and true, if it has one that is known.
func (m *model) best(root api.Root, weights map[api.Root]int) (api.Root, bool) {
	var list []api.Root
	for _, kid := range m.kids(root) {
		if m.blocks[m.find(kid)].known {
			list = append(list, kid)
		}
	}
	if len(list) == 0 {
		return api.Root{}, false
	}
	return slices.MaxFunc(list, func(a, b api.Root) int {
		if x, y := weights[a], weights[b]; x != y {
			return x - y
		}
		return bytes.Compare(a[:], b[:])
	}), true
}

// head answers where the way to best children ends.
func (m *model) head(weights map[api.Root]int) api.Root {
	at := m.blocks[0].root
	for next, ok := m.best(at, weights); ok; next, ok = m.best(at, weights) {
		at = next
	}
	return at
}

// below answers a block, and all that stand below it: its children, theirs, and so on.
func (m *model) below(root api.Root) map[api.Root]bool {
	list := map[api.Root]bool{}
	var down func(root api.Root)
	down = func(root api.Root) {
		list[root] = true
		for _, kid := range m.kids(root) {
			down(kid)
		}
	}
	down(root)
	return list
}

// cut answers what should be left below a block; all that is left is known.
func (m *model) cut(root api.Root) *model {
	left, below := &model{most: m.most}, m.below(root)
	for _, b := range m.blocks {
		if below[b.root] {
			b.known = true
			left.blocks = append(left.blocks, b)
		}
	}
	left.blocks[0].parent = root
	return left
}

// bare answers a model whose blocks weigh nothing.
func (m *model) bare() *model {
	list := slices.Clone(m.blocks)
	for i := range list {
		list[i].own = 0
	}
	return &model{list, m.most}
}

// roots answers the names of all blocks.
func (m *model) roots() []api.Root {
	var list []api.Root
	for _, b := range m.blocks {
		list = append(list, b.root)
	}
	return list
}

// grove is a tree, its weights, and the model of both.
type grove struct {
	tree    *tree.Tree
	weights *weigh.Weights
	model   *model
}

// start answers a tree of one block, and its weights.
func start(t *testing.T, root api.Root, slot, most int) *grove {
	t.Helper()
	x, e := tree.New(root, slot, most)
	if e != api.OK {
		t.Fatalf("a tree of the slot %d, with room for %d: %d", slot, most, e)
	}
	return &grove{x, weigh.New(x), &model{[]block{{root: root, parent: root, slot: slot, known: true}}, most}}
}

// add lays a block into the tree.
func (g *grove) add(t *testing.T, root, parent api.Root, slot int) {
	t.Helper()
	if e := g.tree.Add(root, parent, slot); e != api.OK {
		t.Fatalf("Add of %x behind %x in the slot %d: %d", root, parent, slot, e)
	}
	g.model.blocks = append(g.model.blocks, block{root: root, parent: parent, slot: slot})
}

// grow lays blocks into the tree, in slots that rise by three: of each its number, and its parent's.
func (g *grove) grow(t *testing.T, list ...[2]int) {
	t.Helper()
	for _, c := range list {
		slot := g.model.blocks[len(g.model.blocks)-1].slot
		g.add(t, name(c[0]), name(c[1]), slot+3)
	}
}

// apply makes one block's own weight so much more, and all known.
func (g *grove) apply(t *testing.T, root api.Root, n int) {
	t.Helper()
	if e := g.weights.Apply(weigh.Delta{Root: root, N: n}); e != api.OK {
		t.Fatalf("Apply of %d for %x: %d", n, root, e)
	}
	for i := range g.model.blocks {
		g.model.blocks[i].known = true
	}
	g.model.blocks[g.model.find(root)].own += n
}

// load makes blocks weigh: of each its number, and how much more.
func (g *grove) load(t *testing.T, list ...[2]int) {
	t.Helper()
	for _, c := range list {
		g.apply(t, name(c[0]), c[1])
	}
}

// strangers are names of which most aren't in the trees of these tests: the name of bytes 0 among them.
func strangers() []api.Root {
	return []api.Root{{}, {31: 1}, {0: 1}, {15: 1}, name(60000), name(65535)}
}

// sameTree holds a tree against a model in all calls.
func sameTree(t *testing.T, x *tree.Tree, m *model) {
	t.Helper()
	if x.Len() != len(m.blocks) || x.Room() != m.most-len(m.blocks) {
		t.Fatalf("%d blocks, room for %d more, want %d, and %d", x.Len(), x.Room(), len(m.blocks), m.most-len(m.blocks))
	}
	if got := x.Roots(); !slices.Equal(got, m.roots()) {
		t.Fatalf("the blocks are %x, want %x", got, m.roots())
	}
	for i, b := range m.blocks {
		want := tree.Node{Root: b.root, Slot: b.slot, Parent: -1}
		if i > 0 {
			want.Parent = m.find(b.parent)
		}
		if got, ok := x.Node(i); got != want || !ok || x.Place(b.root) != i {
			t.Fatalf("at %d: %v, %v, want %v; its place is %d", i, got, ok, want, x.Place(b.root))
		}
		if got := x.Kids(b.root); !slices.Equal(got, m.kids(b.root)) {
			t.Fatalf("the children of %x are %x, want %x", b.root, got, m.kids(b.root))
		}
		if !x.Below(m.blocks[0].root, b.root) {
			t.Fatalf("%x doesn't stand below the first block", b.root)
		}
	}
	if n, ok := x.Node(len(m.blocks)); ok {
		t.Fatalf("behind all others: %v", n)
	}
}

// gone holds against a tree, and its weights, that some blocks aren't there.
func gone(t *testing.T, x *tree.Tree, w *weigh.Weights, list []api.Root) {
	t.Helper()
	for _, root := range list {
		if x.Place(root) != -1 || x.Kids(root) != nil || x.Below(root, root) {
			t.Fatalf("%x is there", root)
		}
		best, ok := w.Best(root)
		if w.Own(root) != 0 || w.Weight(root) != 0 || best != (api.Root{}) || ok {
			t.Fatalf("%x weighs %d, and %d; its best child is %x, %v", root, w.Own(root), w.Weight(root), best, ok)
		}
	}
}

// sameWeights holds weights against a model in all calls.
func sameWeights(t *testing.T, w *weigh.Weights, m *model) {
	t.Helper()
	weights := m.weights()
	for _, b := range m.blocks {
		if w.Own(b.root) != b.own || w.Weight(b.root) != weights[b.root] {
			t.Fatalf("%x weighs %d, and %d, want %d, and %d", b.root, w.Own(b.root), w.Weight(b.root), b.own, weights[b.root])
		}
		want, has := m.best(b.root, weights)
		if got, ok := w.Best(b.root); got != want || ok != has {
			t.Fatalf("the best child of %x is %x, %v, want %x, %v", b.root, got, ok, want, has)
		}
	}
	if got, want := w.Head(), m.head(weights); got != want {
		t.Fatalf("the head is %x, want %x", got, want)
	}
}

// same holds the tree and its weights against their model.
func (g *grove) same(t *testing.T) {
	t.Helper()
	sameTree(t, g.tree, g.model)
	sameWeights(t, g.weights, g.model)
}

// sight is all that a tree, and its weights, answer.
type sight struct {
	root  api.Root
	node  tree.Node
	kids  string
	place int
	own   int
	whole int
	best  api.Root
	ok    bool
}

// look answers all that a tree, and its weights, answer; the head, and the room, behind all blocks.
func look(x *tree.Tree, w *weigh.Weights) []sight {
	var list []sight
	for i, root := range x.Roots() {
		s := sight{root: root, place: x.Place(root), own: w.Own(root), whole: w.Weight(root)}
		s.node, _ = x.Node(i)
		s.best, s.ok = w.Best(root)
		for _, kid := range x.Kids(root) {
			s.kids += string(kid[:])
		}
		list = append(list, s)
	}
	return append(list, sight{root: w.Head(), place: x.Len(), own: x.Room()})
}

// cut asks both calls for what is left below a block, with weights and without, holds them against the model,
// and that the tree and its weights stay; it answers what All answered.
func (g *grove) cut(t *testing.T, root api.Root) *grove {
	t.Helper()
	before, want := look(g.tree, g.weights), g.model.cut(root)
	var away []api.Root
	for _, b := range g.model.blocks {
		if want.find(b.root) < 0 {
			away = append(away, b.root)
		}
	}
	x, e := prune.Tree(g.tree, root)
	if x == nil || x == g.tree || e != api.OK {
		t.Fatalf("Tree by %x: %v, error %d", root, x, e)
	}
	sameTree(t, x, want)
	gone(t, x, nil, away)
	y, none, e := prune.All(g.tree, nil, root)
	if y == nil || y == g.tree || y == x || none == nil || e != api.OK {
		t.Fatalf("All by %x, without weights: %v, %v, error %d", root, y, none, e)
	}
	sameTree(t, y, want)
	sameWeights(t, none, want.bare())
	gone(t, y, none, away)
	z, w, e := prune.All(g.tree, g.weights, root)
	if z == nil || z == g.tree || z == x || z == y || w == nil || w == g.weights || w == none || e != api.OK {
		t.Fatalf("All by %x: %v, %v, error %d", root, z, w, e)
	}
	sameTree(t, z, want)
	sameWeights(t, w, want)
	gone(t, z, w, away)
	if !slices.Equal(look(g.tree, g.weights), before) {
		t.Fatalf("by %x: the tree, or its weights, are others", root)
	}
	return &grove{z, w, want}
}

// refused asks both calls for what can't be, and holds that they answer nothing else, and that the tree and its weights stay.
func (g *grove) refused(t *testing.T, root api.Root, want api.Errno) {
	t.Helper()
	before := look(g.tree, g.weights)
	if x, e := prune.Tree(g.tree, root); x != nil || e != want {
		t.Fatalf("Tree by %x: %v, error %d, want %d", root, x, e, want)
	}
	for _, w := range []*weigh.Weights{g.weights, nil} {
		if x, v, e := prune.All(g.tree, w, root); x != nil || v != nil || e != want {
			t.Fatalf("All by %x: %v, %v, error %d, want %d", root, x, v, e, want)
		}
	}
	if !slices.Equal(look(g.tree, g.weights), before) {
		t.Fatalf("by %x, refused: the tree, or its weights, are others", root)
	}
}

// parents answers a shape of so many blocks: of each its parent's number; of the first one -1.
func parents(shape string, n int, r *rand.Rand) []int {
	list := []int{-1}
	for i := 1; i < n; i++ {
		switch shape {
		case "a chain":
			list = append(list, i-1)
		case "a star":
			list = append(list, 0)
		case "two each":
			list = append(list, (i-1)/2)
		case "two chains":
			list = append(list, max(i-2, 0))
		case "a comb":
			list = append(list, (i-1)/2*2)
		case "near":
			list = append(list, max(0, i-1-r.Intn(4)))
		default:
			list = append(list, r.Intn(i))
		}
	}
	return list
}

// shapes are the names of all shapes.
func shapes() []string {
	return []string{"a chain", "a star", "two each", "two chains", "a comb", "near", "any"}
}

// plant answers a tree of a shape, its blocks' names in an order of their own, its slots rising by 1 to 4 from parent to child.
func plant(t *testing.T, shape string, n, most int, r *rand.Rand) *grove {
	t.Helper()
	order, list := r.Perm(maxNodes), parents(shape, n, r)
	g := start(t, name(order[0]), r.Intn(5), most)
	for i := 1; i < n; i++ {
		over := g.model.blocks[list[i]]
		g.add(t, name(order[i]), over.root, over.slot+1+r.Intn(4))
	}
	return g
}

// burden makes some blocks weigh; many weigh nothing, or the same.
func (g *grove) burden(t *testing.T, r *rand.Rand) {
	t.Helper()
	for _, root := range g.model.roots() {
		if n := r.Intn(6); n < 3 {
			g.apply(t, root, n)
		}
	}
}

// P12.1: the chapter's example: by the first block the same tree, and another one; with its weights.
func TestExample(t *testing.T) {
	g := start(t, name(1), 5, 9)
	g.grow(t, [2]int{2, 1}, [2]int{3, 1}, [2]int{4, 2})
	g.load(t, [2]int{2, 5}, [2]int{3, 7}, [2]int{4, 1}, [2]int{1, 3})
	x, e := prune.Tree(g.tree, name(1))
	if e != api.OK || x == g.tree || !slices.Equal(look(x, g.weights), look(g.tree, g.weights)) {
		t.Errorf("Tree: error %d, %v", e, look(x, g.weights))
	}
	x, w, e := prune.All(g.tree, g.weights, name(1))
	if e != api.OK || x == g.tree || w == g.weights || !slices.Equal(look(x, w), look(g.tree, g.weights)) {
		t.Errorf("All: error %d, %v", e, look(x, w))
	}
	g.cut(t, name(1))
}

// P12.1: a nil tree is ErrNil in both calls, with weights and without, whatever block is asked for; nothing else is answered, and weights stay.
func TestNil(t *testing.T) {
	g := start(t, name(1), 0, 9)
	g.grow(t, [2]int{2, 1})
	g.load(t, [2]int{2, 5})
	before := look(g.tree, g.weights)
	for _, root := range append(strangers(), name(1), name(2)) {
		if x, e := prune.Tree(nil, root); x != nil || e != api.ErrNil {
			t.Errorf("Tree by %x: %v, error %d", root, x, e)
		}
		for _, w := range []*weigh.Weights{nil, g.weights} {
			if x, v, e := prune.All(nil, w, root); x != nil || v != nil || e != api.ErrNil {
				t.Errorf("All by %x: %v, %v, error %d", root, x, v, e)
			}
		}
	}
	if !slices.Equal(look(g.tree, g.weights), before) {
		t.Error("the weights are others")
	}
}

// P12.1: a block that isn't there is ErrNone in both calls, however near its name is to another one's; once it came, it is there.
func TestNone(t *testing.T) {
	g := start(t, name(1), 0, maxNodes)
	for n := 1; n < 6; n++ {
		for _, root := range append(strangers(), name(n+1), name(0)) {
			g.refused(t, root, api.ErrNone)
		}
		for _, root := range g.model.roots() {
			for i := range root {
				near := root
				near[i] ^= 1 << (i % 8)
				g.refused(t, near, api.ErrNone)
			}
		}
		g.grow(t, [2]int{n + 1, n})
		g.cut(t, name(n+1)) // also ahead of an Apply that makes it known
		g.load(t, [2]int{n, n})
		g.cut(t, name(n+1))
	}
}

// P12.1: what fell away isn't there any more, in both calls: above what is left, and beside it.
func TestNoneBehindACut(t *testing.T) {
	g := start(t, name(1), 0, 9)
	g.grow(t, [2]int{2, 1}, [2]int{3, 1}, [2]int{4, 2}, [2]int{5, 3}, [2]int{6, 2})
	g.load(t, [2]int{5, 5}, [2]int{6, 1})
	h := g.cut(t, name(2))
	for _, n := range []int{1, 3, 5} {
		h.refused(t, name(n), api.ErrNone)
	}
	h.cut(t, name(2))
	h.cut(t, name(4))
	for _, n := range []int{1, 3, 5} {
		g.cut(t, name(n)) // in the old one all are there
	}
}

// P12.1, P12.2: by each block (leaves, blocks in the middle, the first one) of trees of every shape: all that is left, in order, in its slot, behind its parent; and its weights.
func TestShapes(t *testing.T) {
	r := rand.New(rand.NewSource(1))
	for _, shape := range shapes() {
		for n := 1; n <= 18; n++ {
			for _, most := range []int{n, n + 1, n + 7, maxNodes} {
				g := plant(t, shape, n, most, r)
				g.burden(t, r)
				for _, root := range g.model.roots() {
					g.cut(t, root)
				}
				g.same(t)
			}
		}
	}
}

// P12.1, P12.2: trees of 256 blocks, which are full ones; as many as fell away can be added to what is left, and then no more.
func TestGreat(t *testing.T) {
	r := rand.New(rand.NewSource(2))
	for _, shape := range shapes() {
		g := plant(t, shape, maxNodes, maxNodes, r)
		g.apply(t, g.model.blocks[7].root, 3)
		g.apply(t, g.model.blocks[maxNodes-1].root, 2)
		for _, i := range []int{0, 1, 2, 100, maxNodes - 2, maxNodes - 1} {
			h := g.cut(t, g.model.blocks[i].root)
			h.fill(t)
			sameTree(t, h.tree, h.model)
		}
		sameTree(t, g.tree, g.model)
	}
}

// fill adds blocks behind the first one until there is no room, and holds that there is none then, and that there was as much as Room said.
func (g *grove) fill(t *testing.T) {
	t.Helper()
	first, n := g.model.blocks[0], 1000
	for range g.model.most - len(g.model.blocks) {
		for g.tree.Place(name(n)) >= 0 {
			n++
		}
		g.add(t, name(n), first.root, first.slot+1+n%3)
	}
	for g.tree.Place(name(n)) >= 0 {
		n++
	}
	if g.tree.Room() != 0 {
		t.Fatalf("%d blocks: Room is %d", g.tree.Len(), g.tree.Room())
	}
	if e := g.tree.Add(name(n), first.root, first.slot+1); e != api.ErrFull {
		t.Fatalf("Add to a full tree: %d", e)
	}
}

// P12.1: room is for as many blocks as the tree had room for in all: full ones, and such as have room, whatever falls away.
func TestRoom(t *testing.T) {
	r := rand.New(rand.NewSource(3))
	for _, c := range [][2]int{{1, 1}, {1, 2}, {1, maxNodes}, {2, 2}, {2, 3}, {5, 5}, {5, 6}, {5, 200}, {12, 12}, {12, 13}, {12, maxNodes - 1}, {12, maxNodes}} {
		for _, shape := range shapes() {
			g := plant(t, shape, c[0], c[1], r)
			for _, root := range g.model.roots() {
				h := g.cut(t, root)
				if h.tree.Len()+h.tree.Room() != c[1] {
					t.Fatalf("%s of %d with room for %d, by %x: %d blocks, room for %d more", shape, c[0], c[1], root, h.tree.Len(), h.tree.Room())
				}
				h.fill(t)
				h.cut(t, h.model.blocks[len(h.model.blocks)-1].root).fill(t)
				g.same(t)
			}
		}
	}
}

// P12.1: what is left comes in the order in which it came, whatever came between, and however branches take turns.
func TestOrder(t *testing.T) {
	g := start(t, name(9), 0, 40)
	g.grow(t, [2]int{50, 9}, [2]int{40, 9}, [2]int{41, 40}, [2]int{20, 50}, [2]int{42, 41}, [2]int{10, 50}, [2]int{43, 40}, [2]int{30, 50}, [2]int{11, 10},
		[2]int{31, 30}, [2]int{44, 9}, [2]int{21, 20}, [2]int{1, 31}, [2]int{45, 42}, [2]int{12, 10})
	for _, c := range []struct {
		by   int
		want []int
	}{
		{50, []int{50, 20, 10, 30, 11, 31, 21, 1, 12}},
		{40, []int{40, 41, 42, 43, 45}},
		{10, []int{10, 11, 12}},
		{30, []int{30, 31, 1}},
		{41, []int{41, 42, 45}},
		{44, []int{44}},
		{12, []int{12}},
		{1, []int{1}},
		{9, []int{9, 50, 40, 41, 20, 42, 10, 43, 30, 11, 31, 44, 21, 1, 45, 12}},
	} {
		h := g.cut(t, name(c.by))
		if got := h.tree.Roots(); !slices.Equal(got, names(c.want...)) {
			t.Errorf("by %d: %x", c.by, got)
		}
	}
}

// P12.1: what doesn't stand below the block isn't left, whether it came ahead of it or behind it, and in whatever slot it is.
func TestBeside(t *testing.T) {
	g := start(t, name(1), 0, 20)
	g.add(t, name(2), name(1), 10)
	g.add(t, name(3), name(2), 11) // ahead of it, in a later slot
	g.add(t, name(4), name(1), 5)  // the block
	g.add(t, name(5), name(2), 12) // behind it, below another one
	g.add(t, name(6), name(1), 4)  // behind it, in an earlier slot
	g.add(t, name(7), name(6), 5)  // behind it, in its slot
	g.add(t, name(8), name(4), 6)
	g.add(t, name(9), name(7), 6)
	g.add(t, name(10), name(8), 7)
	g.load(t, [2]int{3, 1}, [2]int{7, 2}, [2]int{8, 3})
	h := g.cut(t, name(4))
	if got := h.tree.Roots(); !slices.Equal(got, names(4, 8, 10)) || h.tree.Room() != 17 || h.weights.Weight(name(4)) != 3 {
		t.Errorf("by 4: %x, room for %d more, it weighs %d", got, h.tree.Room(), h.weights.Weight(name(4)))
	}
	h = g.cut(t, name(6))
	if got := h.tree.Roots(); !slices.Equal(got, names(6, 7, 9)) || h.weights.Weight(name(6)) != 2 {
		t.Errorf("by 6: %x, it weighs %d", got, h.weights.Weight(name(6)))
	}
}

// P12.1: the first one that is left has Parent -1, and its slot, also at the edges of slots; what is added to what is left stands in slots behind that.
func TestSlots(t *testing.T) {
	g := start(t, name(1), 7, 9)
	g.add(t, name(2), name(1), 8)
	g.add(t, name(3), name(2), maxSlot-1)
	g.add(t, name(4), name(3), maxSlot)
	g.add(t, name(5), name(1), maxSlot)
	for _, n := range []int{1, 2, 3, 4, 5} {
		h := g.cut(t, name(n))
		first := h.model.blocks[0]
		if got, ok := h.tree.Node(0); !ok || got != (tree.Node{Root: name(n), Slot: first.slot, Parent: -1}) {
			t.Errorf("by %d: the first one is %v, %v", n, got, ok)
		}
		for _, slot := range []int{-1, 0, 7, first.slot - 1, first.slot, maxSlot + 1} {
			if e := h.tree.Add(name(99), name(n), slot); e != api.ErrParent {
				t.Errorf("by %d: Add in the slot %d: %d", n, slot, e)
			}
		}
		if first.slot < maxSlot {
			h.add(t, name(99), name(n), first.slot+1)
			h.add(t, name(98), name(n), maxSlot)
		}
		if e := h.tree.Add(name(n), name(n), maxSlot); e != api.ErrTwice {
			t.Errorf("by %d: Add of itself: %d", n, e)
		}
		sameTree(t, h.tree, h.model)
	}
	for _, slot := range []int{0, maxSlot} {
		start(t, name(1), slot, 1).cut(t, name(1))
	}
}

// P12.1: what was added to the new tree isn't in the old one, nor the other way round; nor in another one that was answered for the same block.
func TestApart(t *testing.T) {
	for _, by := range []int{1, 2, 4} {
		g := start(t, name(1), 0, 12)
		g.grow(t, [2]int{2, 1}, [2]int{3, 1}, [2]int{4, 2}, [2]int{5, 4})
		g.load(t, [2]int{4, 3}, [2]int{5, 1}, [2]int{3, 9})
		a, b := g.cut(t, name(by)), g.cut(t, name(by))
		a.grow(t, [2]int{60, 5}, [2]int{61, by})
		g.same(t)
		b.same(t)
		b.grow(t, [2]int{61, 5}, [2]int{60, by})
		g.same(t)
		sameTree(t, a.tree, a.model)
		g.grow(t, [2]int{60, 4}, [2]int{62, 4}, [2]int{61, 62})
		sameTree(t, a.tree, a.model)
		sameTree(t, b.tree, b.model)
		a.apply(t, name(61), 4)
		b.apply(t, name(61), 5)
		g.apply(t, name(61), 6)
		for _, x := range []*grove{a, b, g} {
			x.same(t)
			x.cut(t, name(61))
			x.cut(t, name(60))
		}
		a.fill(t)
		b.fill(t)
		g.fill(t)
	}
}

// P12.1: own weights of what is left are what they were: 0, above 0, just below MaxStake; also where what fell away weighed all that can be.
func TestOwn(t *testing.T) {
	for _, own := range []int{0, 1, 2, 1 << 31, 1 << 32, 1<<53 + 1, 1 << 61, maxStake - 2, maxStake - 1} {
		for at := 1; at <= 5; at++ {
			g := start(t, name(1), 0, 12)
			g.grow(t, [2]int{2, 1}, [2]int{3, 1}, [2]int{4, 2}, [2]int{5, 4})
			g.load(t, [2]int{at, own})
			if own < maxStake-1 {
				g.load(t, [2]int{4, 1})
			}
			for by := 1; by <= 5; by++ {
				h := g.cut(t, name(by))
				want := 0
				if h.tree.Place(name(at)) >= 0 {
					want = own
					if at == 4 && own < maxStake-1 {
						want++
					}
				}
				if got := h.weights.Own(name(at)); got != want {
					t.Errorf("%d weighs %d, by %d: %d", at, own, by, got)
				}
			}
		}
	}
}

// P12.1, P12.2: all own weights together are just below MaxStake, in unlike parts; by each block the rest is what it was.
func TestTogether(t *testing.T) {
	g := start(t, name(1), 0, 12)
	g.grow(t, [2]int{2, 1}, [2]int{3, 1}, [2]int{4, 2}, [2]int{5, 4}, [2]int{6, 3})
	g.load(t, [2]int{1, 1 << 60}, [2]int{2, 1 << 59}, [2]int{3, 1 << 59}, [2]int{4, 1 << 60}, [2]int{5, 1 << 59}, [2]int{6, 1<<59 - 1})
	for by := 1; by <= 6; by++ {
		h := g.cut(t, name(by))
		h.apply(t, name(by), maxStake-1-h.model.weights()[name(by)]) // what fell away leaves as much for the rest
		h.same(t)
		if e := h.weights.Apply(weigh.Delta{Root: name(by), N: 1}); e != api.ErrArg {
			t.Errorf("by %d: all together may be MaxStake: %d", by, e)
		}
		h.same(t)
	}
	g.same(t)
}

// P12.2: weights behind the call, best children and heads of what is left, with numbers written out.
func TestWeights(t *testing.T) {
	g := start(t, name(1), 0, 20)
	g.grow(t, [2]int{2, 1}, [2]int{3, 1}, [2]int{4, 2}, [2]int{5, 3}, [2]int{6, 2}, [2]int{7, 4}, [2]int{8, 3}, [2]int{9, 8})
	g.load(t, [2]int{7, 3}, [2]int{6, 3}, [2]int{1, 50}, [2]int{2, 1}, [2]int{5, 2}, [2]int{9, 1}, [2]int{3, 5}, [2]int{8, 1})
	for _, c := range []struct {
		by, of, own, weight, best, head int // best -1: there is none
	}{
		{2, 2, 1, 7, 6, 6},
		{2, 4, 0, 3, 7, 6},
		{2, 6, 3, 3, -1, 6},
		{4, 4, 0, 3, 7, 7},
		{4, 7, 3, 3, -1, 7},
		{3, 3, 5, 9, 8, 9},
		{3, 5, 2, 2, -1, 9},
		{3, 8, 1, 2, 9, 9},
		{8, 8, 1, 2, 9, 9},
		{5, 5, 2, 2, -1, 5},
		{1, 1, 50, 66, 3, 9},
	} {
		h := g.cut(t, name(c.by))
		w, want := h.weights, api.Root{}
		if c.best >= 0 {
			want = name(c.best)
		}
		best, ok := w.Best(name(c.of))
		if w.Own(name(c.of)) != c.own || w.Weight(name(c.of)) != c.weight || best != want || ok != (c.best >= 0) || w.Head() != name(c.head) {
			t.Errorf("by %d: %d weighs %d, and %d, its best child is %x, %v, the head is %x", c.by, c.of, w.Own(name(c.of)), w.Weight(name(c.of)), best, ok, w.Head())
		}
	}
}

// P12.2: each block that is left weighs what it did, and has the same best child; and the head is the same, if the block stands at it, or above it. All by the old weights' own answers.
func TestKept(t *testing.T) {
	r := rand.New(rand.NewSource(4))
	other := 0
	for range 150 {
		all := shapes()
		g := plant(t, all[r.Intn(len(all))], 1+r.Intn(20), maxNodes, r)
		g.apply(t, g.model.blocks[0].root, 0)
		g.burden(t, r)
		for _, root := range g.model.roots() {
			h := g.cut(t, root)
			for _, at := range h.tree.Roots() {
				best, ok := h.weights.Best(at)
				old, had := g.weights.Best(at)
				if h.weights.Own(at) != g.weights.Own(at) || h.weights.Weight(at) != g.weights.Weight(at) || best != old || ok != had {
					t.Fatalf("by %x: %x isn't what it was", root, at)
				}
			}
			if g.tree.Below(root, g.weights.Head()) {
				if h.weights.Head() != g.weights.Head() {
					t.Fatalf("by %x, at the head or above it: %x, before %x", root, h.weights.Head(), g.weights.Head())
				}
			} else if h.weights.Head() != g.weights.Head() {
				other++
			}
		}
	}
	if other == 0 {
		t.Error("no block stands beside the way to the head")
	}
}

// P12.2: the head stays by each block of the way to it, and is another one by each block beside it.
func TestHead(t *testing.T) {
	g := start(t, name(1), 0, 20)
	g.grow(t, [2]int{2, 1}, [2]int{3, 1}, [2]int{4, 2}, [2]int{5, 2}, [2]int{6, 4}, [2]int{7, 3}, [2]int{8, 6})
	g.load(t, [2]int{6, 4}, [2]int{5, 3}, [2]int{7, 6}, [2]int{3, 1}, [2]int{4, 1}) // 2 weighs 8, and 3 weighs 7
	for _, c := range []struct{ by, head int }{{1, 8}, {2, 8}, {4, 8}, {6, 8}, {8, 8}, {3, 7}, {7, 7}, {5, 5}} {
		if h := g.cut(t, name(c.by)); h.weights.Head() != name(c.head) {
			t.Errorf("2 weighs more, by %d: the head is %x", c.by, h.weights.Head())
		}
	}
	g.load(t, [2]int{7, 5})
	for _, c := range []struct{ by, head int }{{1, 7}, {3, 7}, {7, 7}, {2, 8}, {4, 8}, {6, 8}, {8, 8}, {5, 5}} {
		if h := g.cut(t, name(c.by)); h.weights.Head() != name(c.head) {
			t.Errorf("3 weighs more, by %d: the head is %x", c.by, h.weights.Head())
		}
	}
}

// P12.1: without weights all weigh 0, whatever the tree's own weights are; best children are by names alone, and Apply changes them as any.
func TestNilWeights(t *testing.T) {
	g := start(t, name(1), 0, 20)
	g.grow(t, [2]int{2, 1}, [2]int{4, 2}, [2]int{3, 2}, [2]int{9, 1}, [2]int{8, 3})
	g.load(t, [2]int{3, 3}, [2]int{2, 30})
	left, w, e := prune.All(g.tree, nil, name(2))
	if e != api.OK || w == nil || left.Len() != 4 {
		t.Fatalf("error %d", e)
	}
	for _, root := range left.Roots() {
		if w.Own(root) != 0 || w.Weight(root) != 0 {
			t.Errorf("%x weighs %d, and %d", root, w.Own(root), w.Weight(root))
		}
	}
	if best, ok := w.Best(name(2)); !ok || best != name(4) || w.Head() != name(4) {
		t.Errorf("the best child is %x, %v, the head is %x", best, ok, w.Head())
	}
	if e := w.Apply(weigh.Delta{Root: name(8), N: maxStake - 1}); e != api.OK || w.Weight(name(2)) != maxStake-1 || w.Head() != name(8) {
		t.Errorf("Apply: %d; it weighs %d, the head is %x", e, w.Weight(name(2)), w.Head())
	}
	g.same(t)
}

// P12.1: of blocks that came since the weights' last Apply the own weight is 0 in what is left, and they are known there; the old weights know nothing of them.
func TestCameSince(t *testing.T) {
	g := start(t, name(1), 0, 30)
	g.grow(t, [2]int{2, 1}, [2]int{3, 1}, [2]int{4, 2})
	g.load(t, [2]int{4, 2}, [2]int{3, 1})
	g.grow(t, [2]int{9, 2}, [2]int{8, 4}, [2]int{7, 9}, [2]int{10, 3}, [2]int{11, 8}, [2]int{6, 1})
	for _, c := range []struct{ by, head int }{{1, 11}, {2, 11}, {3, 10}, {4, 11}, {9, 7}, {8, 11}, {7, 7}, {10, 10}, {11, 11}, {6, 6}} {
		h := g.cut(t, name(c.by))
		if h.weights.Head() != name(c.head) {
			t.Errorf("by %d: the head is %x", c.by, h.weights.Head())
		}
		for _, n := range []int{6, 7, 8, 9, 10, 11} {
			if h.weights.Own(name(n)) != 0 || h.weights.Weight(name(n)) != 0 {
				t.Errorf("by %d: %d weighs %d", c.by, n, h.weights.Weight(name(n)))
			}
		}
		if g.weights.Head() != name(4) {
			t.Errorf("by %d: the old weights' head is %x", c.by, g.weights.Head())
		}
	}
	h := g.cut(t, name(2))
	if best, ok := h.weights.Best(name(9)); !ok || best != name(7) {
		t.Errorf("the best child of one that came since: %x, %v", best, ok)
	}
	if best, ok := g.weights.Best(name(9)); ok {
		t.Errorf("the old weights know it: %x", best)
	}
	g.load(t, [2]int{7, 2})
	if got := g.cut(t, name(2)).weights.Weight(name(9)); got != 2 {
		t.Errorf("behind an Apply it weighs %d", got)
	}
	if h.weights.Weight(name(9)) != 0 {
		t.Error("what was answered earlier changed")
	}
	if e := g.tree.Add(name(12), name(7), 500); e != api.OK || g.weights.Apply(weigh.Delta{Root: name(99)}) != api.ErrNone {
		t.Errorf("a block, and an Apply that is refused: %d", e)
	}
	_, w, e := prune.All(g.tree, g.weights, name(9))
	if e != api.OK || w.Weight(name(9)) != 2 || w.Head() != name(12) {
		t.Errorf("behind an Apply that is refused: %d, it weighs %d, the head is %x", e, w.Weight(name(9)), w.Head())
	}
}

// P12.1: the weights are those of the tree that is answered, itself: they learn by Apply of blocks that come to it, and of none that come to the old one.
func TestItself(t *testing.T) {
	for _, by := range []int{1, 2, 4} {
		g := start(t, name(1), 0, 30)
		g.grow(t, [2]int{2, 1}, [2]int{3, 1}, [2]int{4, 2})
		g.load(t, [2]int{4, 2}, [2]int{3, 1})
		h := g.cut(t, name(by))
		h.grow(t, [2]int{50, 4})
		h.same(t)
		if h.weights.Head() != name(4) {
			t.Errorf("by %d: ahead of Apply the head is %x", by, h.weights.Head())
		}
		if e := h.weights.Apply(); e != api.OK || h.weights.Head() != name(50) {
			t.Errorf("by %d: Apply: %d, the head is %x", by, e, h.weights.Head())
		}
		h.apply(t, name(50), 6)
		h.same(t)
		if e := g.weights.Apply(weigh.Delta{Root: name(50), N: 6}); e != api.ErrNone {
			t.Errorf("by %d: Apply to the old weights: %d", by, e)
		}
		g.grow(t, [2]int{51, 4})
		g.load(t, [2]int{51, 1})
		if e := h.weights.Apply(weigh.Delta{Root: name(51), N: 1}); e != api.ErrNone {
			t.Errorf("by %d: Apply for a block of the old tree: %d", by, e)
		}
		g.same(t)
		h.same(t)
	}
}

// P12.1: likewise of weights that are answered where there were none.
func TestItselfWithoutWeights(t *testing.T) {
	g := start(t, name(1), 0, 30)
	g.grow(t, [2]int{2, 1}, [2]int{4, 2})
	left, w, e := prune.All(g.tree, nil, name(2))
	if e != api.OK || left.Add(name(50), name(2), 200) != api.OK {
		t.Fatalf("error %d", e)
	}
	if w.Head() != name(4) {
		t.Errorf("ahead of Apply the head is %x", w.Head())
	}
	if e := w.Apply(weigh.Delta{Root: name(50), N: 6}); e != api.OK || w.Head() != name(50) || w.Weight(name(2)) != 6 {
		t.Errorf("Apply: %d, the head is %x", e, w.Head())
	}
	g.same(t)
}

// P12.1: weights of what is left change by Apply as any do, and the old ones don't; nor the other way round; nor those of another answer for the same block.
func TestWeightsApart(t *testing.T) {
	for _, by := range []int{1, 2, 4} {
		g := start(t, name(1), 0, 30)
		g.grow(t, [2]int{2, 1}, [2]int{3, 1}, [2]int{4, 2}, [2]int{5, 4}, [2]int{6, 4})
		g.load(t, [2]int{4, 2}, [2]int{3, 1}, [2]int{5, 7}, [2]int{6, 7})
		a, b := g.cut(t, name(by)), g.cut(t, name(by))
		a.load(t, [2]int{5, 3}, [2]int{4, -2}, [2]int{6, -7})
		a.same(t)
		b.same(t)
		g.same(t)
		g.load(t, [2]int{6, 9}, [2]int{5, -7})
		a.same(t)
		b.same(t)
		b.load(t, [2]int{6, -1}, [2]int{5, -1})
		for _, x := range []*grove{a, b, g} {
			x.same(t)
		}
		for _, c := range []struct {
			root api.Root
			n    int
			want api.Errno
		}{{name(5), -11, api.ErrArg}, {name(4), -1, api.ErrArg}, {name(99), 1, api.ErrNone}, {name(6), maxStake - 10, api.ErrArg}} {
			if e := a.weights.Apply(weigh.Delta{Root: c.root, N: c.n}); e != c.want {
				t.Errorf("by %d: Apply of %d: %d, want %d", by, c.n, e, c.want)
			}
		}
		if e := a.weights.Apply(weigh.Delta{Root: name(3), N: 1}); by > 1 && e != api.ErrNone {
			t.Errorf("by %d: Apply for what fell away: %d", by, e)
		} else if by == 1 {
			a.model.blocks[a.model.find(name(3))].own++
		}
		for _, x := range []*grove{a, b, g} {
			x.same(t)
		}
	}
}

// P12.1, P12.2: by one block, and then by one below it, is as by that one alone.
func TestInSteps(t *testing.T) {
	r := rand.New(rand.NewSource(5))
	for _, shape := range shapes() {
		for range 4 {
			g := plant(t, shape, 1+r.Intn(14), 20, r)
			g.burden(t, r)
			for _, root := range g.model.roots() {
				alone := g.cut(t, root)
				for _, over := range g.model.roots() {
					if !g.tree.Below(over, root) {
						continue
					}
					twice := g.cut(t, over).cut(t, root)
					if !slices.Equal(look(twice.tree, twice.weights), look(alone.tree, alone.weights)) {
						t.Fatalf("%s, by %x, and then by %x: %v, by that alone %v", shape, over, root, look(twice.tree, twice.weights), look(alone.tree, alone.weights))
					}
				}
			}
		}
	}
}

// P12.1: a chain made shorter from its front, one block a call, while others come to its end: room stays the same.
func TestLongWay(t *testing.T) {
	g := start(t, name(0), 0, 5)
	g.grow(t, [2]int{1, 0}, [2]int{2, 1}, [2]int{3, 2}, [2]int{4, 3})
	for n := 1; n < 300; n++ {
		g = g.cut(t, name(n))
		g.grow(t, [2]int{n + 4, n + 3})
		g.apply(t, name(n+4), n)
		g.same(t)
		if g.tree.Room() != 0 || g.tree.Add(name(n+5), name(n+4), 5000) != api.ErrFull {
			t.Fatalf("by %d: room for %d more", n, g.tree.Room())
		}
	}
}

// P12.1: the name of 32 bytes 0 is one as any other: where no block has it, as the first block's, as that of the block asked for, of one below it, and of one that falls away.
func TestZeroName(t *testing.T) {
	var zero api.Root
	start(t, name(1), 0, 5).refused(t, zero, api.ErrNone)
	start(t, zero, 0, 5).cut(t, zero)
	for at := range 5 {
		list := names(1, 2, 3, 4, 5)
		list[at] = zero
		g := start(t, list[0], 2, 9)
		g.add(t, list[1], list[0], 3)
		g.add(t, list[2], list[0], 4)
		g.add(t, list[3], list[1], 5)
		g.add(t, list[4], list[3], 6)
		for i, root := range list {
			g.apply(t, root, 10+i)
		}
		for _, root := range list {
			h := g.cut(t, root)
			if h.tree.Place(zero) < 0 {
				h.refused(t, zero, api.ErrNone)
			}
		}
	}
}

// P12.1, P12.2: calls as they come: blocks, weights, cuts that are kept and cuts that aren't, good ones and wrong ones; the old tree stays beside the new one.
func TestMixed(t *testing.T) {
	r := rand.New(rand.NewSource(6))
	for round := range 120 {
		g := start(t, name(r.Intn(12)), r.Intn(3), 1+r.Intn(12))
		var old []*grove
		for range 60 {
			root, all := name(r.Intn(12)), g.model.roots()
			switch r.Intn(6) {
			case 0, 1, 2:
				g.mayAdd(t, root, all[r.Intn(len(all))], r)
			case 3:
				g.apply(t, all[r.Intn(len(all))], r.Intn(4))
			case 4:
				if g.tree.Place(root) < 0 {
					g.refused(t, root, api.ErrNone)
				} else {
					g.cut(t, root)
				}
			case 5:
				if r.Intn(4) == 0 {
					old = append(old, g)
					g = g.cut(t, all[r.Intn(len(all))])
				}
			}
			g.same(t)
		}
		for i, x := range old {
			if x.same(t); t.Failed() {
				t.Fatalf("round %d: the tree %d of %d changed", round, i, len(old))
			}
		}
	}
}

// mayAdd lays a block into the tree, if it isn't there, and there is room.
func (g *grove) mayAdd(t *testing.T, root, parent api.Root, r *rand.Rand) {
	t.Helper()
	if g.tree.Place(root) >= 0 || g.tree.Room() == 0 {
		return
	}
	g.add(t, root, parent, g.model.blocks[g.model.find(parent)].slot+1+r.Intn(3))
}

// Rule 4: what is answered hangs on the tree and its weights alone: the same call, said again, answers the same, and two trees that hold the same answer the same.
func TestAgain(t *testing.T) {
	for n := 1; n < 25; n++ {
		a, b := plant(t, "any", n, 40, rand.New(rand.NewSource(int64(n)))), plant(t, "any", n, 40, rand.New(rand.NewSource(int64(n))))
		a.burden(t, rand.New(rand.NewSource(9)))
		b.burden(t, rand.New(rand.NewSource(9)))
		for i, root := range a.model.roots() {
			x, y := a.cut(t, root), b.cut(t, root)
			if again := a.cut(t, root); !slices.Equal(look(x.tree, x.weights), look(y.tree, y.weights)) || !slices.Equal(look(x.tree, x.weights), look(again.tree, again.weights)) {
				t.Fatal("the same block, " + strconv.Itoa(i) + ", asked for again")
			}
		}
	}
}
