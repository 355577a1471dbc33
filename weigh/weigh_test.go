package weigh_test

import (
	"bytes"
	"math"
	"math/big"
	"math/rand"
	"slices"
	"testing"

	"toller/api"
	"toller/tree"
	"toller/weigh"
)

const (
	maxStake = 1 << 62
	maxNodes = 256
)

// name answers a name, another one for each number; of two that aren't above 255 the greater number's is the greater name.
func name(n int) api.Root {
	return api.Root{byte(n), byte(n >> 8), 31: byte(n) ^ 0x5a}
}

// d answers a delta of a block with such a number.
func d(n, by int) weigh.Delta {
	return weigh.Delta{Root: name(n), N: by}
}

// deltas answers deltas as a list.
func deltas(list ...weigh.Delta) []weigh.Delta { return list }

// block is a block of a model: its name, its parent's, its own weight, and whether it is known.
type block struct {
	root, parent api.Root
	own          *big.Int
	known        bool
}

// model is what a tree and its weights should hold, by the chapter's words alone; its numbers can't go round.
type model struct {
	blocks []*block
}

// find answers a block; nil, if it isn't there.
func (m *model) find(root api.Root) *block {
	for _, b := range m.blocks {
		if b.root == root {
			return b
		}
	}
	return nil
}

// add lays a block below its parent; nothing knows of it at first.
func (m *model) add(root, parent api.Root) {
	m.blocks = append(m.blocks, &block{root: root, parent: parent, own: new(big.Int)})
}

// learn makes all blocks known.
func (m *model) learn() {
	for _, b := range m.blocks {
		b.known = true
	}
}

// kids answers the children of a block that are known; the first block is no one's.
func (m *model) kids(root api.Root) []*block {
	var list []*block
	for i, b := range m.blocks {
		if i > 0 && b.known && b.parent == root {
			list = append(list, b)
		}
	}
	return list
}

// weights answers what each block that is known weighs: its own weight, and what its children weigh.
func (m *model) weights() map[api.Root]*big.Int {
	list := map[api.Root]*big.Int{}
	var of func(b *block) *big.Int
	of = func(b *block) *big.Int {
		sum := new(big.Int).Set(b.own)
		for _, k := range m.kids(b.root) {
			sum.Add(sum, of(k))
		}
		list[b.root] = sum
		return sum
	}
	of(m.blocks[0])
	return list
}

// best answers the best child of a block by what all weigh; nil, if it has none, or isn't known.
func (m *model) best(root api.Root, weights map[api.Root]*big.Int) *block {
	if b := m.find(root); b == nil || !b.known {
		return nil
	}
	kids := m.kids(root)
	if len(kids) == 0 {
		return nil
	}
	return slices.MaxFunc(kids, func(a, b *block) int {
		if n := weights[a.root].Cmp(weights[b.root]); n != 0 {
			return n
		}
		return bytes.Compare(a.root[:], b.root[:])
	})
}

// head answers where the way to best children ends.
func (m *model) head(weights map[api.Root]*big.Int) api.Root {
	at := m.blocks[0]
	for b := at; b != nil; b = m.best(b.root, weights) {
		at = b
	}
	return at.root
}

// inside answers whether a number is from 0 on, and below MaxStake.
func inside(n *big.Int) bool {
	return n.Sign() >= 0 && n.Cmp(big.NewInt(maxStake)) < 0
}

// apply answers what Apply should, and changes own weights if it may.
func (m *model) apply(list []weigh.Delta) api.Errno {
	m.learn()
	own := map[api.Root]*big.Int{}
	for _, b := range m.blocks {
		own[b.root] = new(big.Int).Set(b.own)
	}
	for _, c := range list {
		n, ok := own[c.Root]
		if !ok {
			return api.ErrNone
		}
		if c.N <= -maxStake || c.N >= maxStake {
			return api.ErrArg
		}
		if n.Add(n, big.NewInt(int64(c.N))); !inside(n) {
			return api.ErrArg
		}
	}
	all := new(big.Int)
	for _, n := range own {
		all.Add(all, n)
	}
	if !inside(all) {
		return api.ErrArg
	}
	for _, b := range m.blocks {
		b.own = own[b.root]
	}
	return api.OK
}

// pair is a tree, with its weights, and the model of both.
type pair struct {
	tree  *tree.Tree
	w     *weigh.Weights
	model *model
}

// start answers a tree of one block, and its weights.
func start(t *testing.T, root api.Root) *pair {
	t.Helper()
	x, e := tree.New(root, 0, maxNodes)
	if e != api.OK {
		t.Fatalf("a tree: %d", e)
	}
	p := &pair{tree: x, model: &model{}}
	p.model.add(root, root)
	p.renew(t)
	return p
}

// renew makes new weights of the tree.
func (p *pair) renew(t *testing.T) {
	t.Helper()
	if p.w = weigh.New(p.tree); p.w == nil {
		t.Fatal("New of a tree is nil")
	}
	for _, b := range p.model.blocks {
		b.own = new(big.Int)
	}
	p.model.learn()
}

// add lays a block into the tree, in a slot that rises.
func (p *pair) add(t *testing.T, root, parent api.Root) {
	t.Helper()
	if e := p.tree.Add(root, parent, p.tree.Len()); e != api.OK {
		t.Fatalf("Add of %x behind %x: %d", root, parent, e)
	}
	p.model.add(root, parent)
}

// grow lays blocks into the tree: of each its number, and its parent's.
func (p *pair) grow(t *testing.T, list ...[2]int) {
	t.Helper()
	for _, c := range list {
		p.add(t, name(c[0]), name(c[1]))
	}
}

// apply applies deltas to the weights, and to the model, whose error they must answer.
func (p *pair) apply(t *testing.T, list ...weigh.Delta) api.Errno {
	t.Helper()
	want := p.model.apply(list)
	if got := p.w.Apply(list...); got != want {
		t.Fatalf("Apply of %s: %d, want %d", tell(list), got, want)
	}
	return want
}

// done applies deltas that must be taken, and holds all that is asked against the model.
func (p *pair) done(t *testing.T, list ...weigh.Delta) {
	t.Helper()
	if e := p.apply(t, list...); e != api.OK {
		t.Fatalf("Apply of %s: %d", tell(list), e)
	}
	p.same(t)
}

// refused applies deltas that must be answered by an error, and holds what all weigh against what it was. (A best child may be one that came since.)
func (p *pair) refused(t *testing.T, want api.Errno, list ...weigh.Delta) {
	t.Helper()
	before := p.numbers()
	if e := p.apply(t, list...); e != want {
		t.Fatalf("Apply of %s: %d, want %d", tell(list), e, want)
	}
	p.same(t)
	if after := p.numbers(); !slices.Equal(after, before) {
		t.Fatalf("Apply of %s, refused, changed weights: %v, before %v", tell(list), after, before)
	}
}

// numbers answers what all blocks of the tree weigh, of their own, and with all below them.
func (p *pair) numbers() []int {
	var list []int
	for _, root := range p.tree.Roots() {
		list = append(list, p.w.Own(root), p.w.Weight(root))
	}
	return list
}

// tell writes deltas down, names by their first two bytes.
func tell(list []weigh.Delta) string {
	var b bytes.Buffer
	for _, c := range list {
		b.WriteString(big.NewInt(int64(c.Root[0])+int64(c.Root[1])<<8).String() + ": " + big.NewInt(int64(c.N)).String() + ", ")
	}
	return b.String()
}

// answer is what weights say of a block.
type answer struct {
	root        api.Root
	own, weight int
	best        api.Root
	ok          bool
}

// asked answers what weights say of each block of the tree, the head behind them.
func (p *pair) asked() []answer {
	var list []answer
	for _, root := range p.tree.Roots() {
		best, ok := p.w.Best(root)
		list = append(list, answer{root, p.w.Own(root), p.w.Weight(root), best, ok})
	}
	return append(list, answer{root: p.w.Head()})
}

// strangers are names of which most aren't in the trees of these tests: the name of bytes 0 among them.
func strangers() []api.Root {
	return []api.Root{{}, {31: 1}, {0: 1}, {15: 1}, name(60000), name(65535)}
}

// same holds weights against their model in all calls, twice, since no question changes them; and against P11.2.
func (p *pair) same(t *testing.T) {
	t.Helper()
	weights := p.model.weights()
	for range 2 {
		for _, b := range p.model.blocks {
			p.sameOf(t, b.root, weights)
		}
		for _, root := range strangers() {
			p.sameOf(t, root, weights)
		}
		if got, want := p.w.Head(), p.model.head(weights); got != want {
			t.Fatalf("the head is %x, want %x", got, want)
		}
	}
	p.lawful(t)
}

// sameOf holds what weights say of a block against the model.
func (p *pair) sameOf(t *testing.T, root api.Root, weights map[api.Root]*big.Int) {
	t.Helper()
	own, weight := new(big.Int), new(big.Int)
	if b := p.model.find(root); b != nil && b.known {
		own, weight = b.own, weights[root]
	}
	if got := p.w.Own(root); own.Cmp(big.NewInt(int64(got))) != 0 {
		t.Fatalf("the own weight of %x is %d, want %v", root, got, own)
	}
	if got := p.w.Weight(root); weight.Cmp(big.NewInt(int64(got))) != 0 {
		t.Fatalf("the weight of %x is %d, want %v", root, got, weight)
	}
	var want api.Root
	b := p.model.best(root, weights)
	if b != nil {
		want = b.root
	}
	if got, ok := p.w.Best(root); got != want || ok != (b != nil) {
		t.Fatalf("the best child of %x is %x, %v, want %x, %v", root, got, ok, want, b != nil)
	}
}

// lawful holds P11.2 against the weights' own answers, and those of the tree.
func (p *pair) lawful(t *testing.T) {
	t.Helper()
	roots, all := p.tree.Roots(), 0
	for _, root := range roots {
		own := p.w.Own(root)
		if own < 0 || own >= maxStake || p.w.Weight(root) < own {
			t.Fatalf("%x weighs %d, and %d of its own", root, p.w.Weight(root), own)
		}
		if all += own; all < 0 || all >= maxStake {
			t.Fatalf("all own weights together are %d", all)
		}
		for _, kid := range p.tree.Kids(root) {
			if p.w.Weight(kid) > p.w.Weight(root) {
				t.Fatalf("%x weighs %d, its parent %x %d", kid, p.w.Weight(kid), root, p.w.Weight(root))
			}
		}
	}
	if got := p.w.Weight(roots[0]); got != all {
		t.Fatalf("the first block weighs %d, all own weights together %d", got, all)
	}
}

// head holds the head against a block's number.
func (p *pair) head(t *testing.T, at string, want int) {
	t.Helper()
	if got := p.w.Head(); got != name(want) {
		t.Fatalf("%s: the head is %x, want %x (%d)", at, got, name(want), want)
	}
}

// best holds a block's best child against a number; -1: it has none.
func (p *pair) best(t *testing.T, at string, of, want int) {
	t.Helper()
	root := api.Root{}
	if want >= 0 {
		root = name(want)
	}
	if got, ok := p.w.Best(name(of)); got != root || ok != (want >= 0) {
		t.Fatalf("%s: the best child of %d is %x, %v, want %d", at, of, got, ok, want)
	}
}

// weighs holds what a block weighs of its own, and with all below it, against numbers.
func (p *pair) weighs(t *testing.T, of, own, weight int) {
	t.Helper()
	if a, b := p.w.Own(name(of)), p.w.Weight(name(of)); a != own || b != weight {
		t.Fatalf("%d weighs %d and, with all below it, %d, want %d and %d", of, a, b, own, weight)
	}
}

// P11.1: the chapter's example: of two children that weigh the same, the one with the greater name is the best, whichever came first.
func TestExample(t *testing.T) {
	for _, list := range [][][2]int{{{1, 9}, {2, 9}}, {{2, 9}, {1, 9}}} {
		p := start(t, name(9))
		p.grow(t, list...)
		p.done(t)
		p.best(t, "both weigh 0", 9, 2)
		p.head(t, "both weigh 0", 2)
		p.done(t, d(1, 7), d(2, 7))
		p.best(t, "both weigh 7", 9, 2)
		p.head(t, "both weigh 7", 2)
	}
}

// P11.1: New of a nil tree is nil; of one block, and of many, all weigh 0 ahead of any Apply, and are known.
func TestNew(t *testing.T) {
	if w := weigh.New(nil); w != nil {
		t.Errorf("of a nil tree: %v", w)
	}
	p := start(t, name(5))
	p.weighs(t, 5, 0, 0)
	p.best(t, "one block", 5, -1)
	p.head(t, "one block", 5)
	p.same(t)
	p.grow(t, [2]int{6, 5}, [2]int{8, 5}, [2]int{7, 5}, [2]int{1, 8}, [2]int{2, 8}, [2]int{90, 6}, [2]int{3, 2}, [2]int{91, 7})
	p.renew(t)
	for n := 1; n < 100; n++ {
		p.weighs(t, n, 0, 0)
	}
	p.best(t, "ahead of any Apply", 5, 8)
	p.best(t, "ahead of any Apply", 8, 2)
	p.best(t, "ahead of any Apply", 6, 90)
	p.best(t, "ahead of any Apply", 3, -1)
	p.head(t, "ahead of any Apply", 3)
	p.same(t)
}

// P11.1: of blocks that came since New, or since the last Apply, nothing is known until the next Apply, whether it has deltas or not, and whatever it answers.
func TestCameSince(t *testing.T) {
	for _, c := range []struct {
		what      string
		list      []weigh.Delta
		want      api.Errno
		own, best int // of the block 7, and of the first block, behind the Apply
	}{
		{"without deltas", nil, api.OK, 0, 7},
		{"a delta of 0", deltas(d(1, 0)), api.OK, 0, 7},
		{"a delta of another block", deltas(d(2, 1)), api.OK, 0, 2},
		{"a delta of the block that came", deltas(d(7, 5)), api.OK, 5, 7},
		{"ErrNone", deltas(d(77, 1)), api.ErrNone, 0, 7},
		{"ErrNone behind a delta of the block that came", deltas(d(7, 3), d(77, 1)), api.ErrNone, 0, 7},
		{"ErrArg of the block that came", deltas(d(7, -1)), api.ErrArg, 0, 7},
		{"ErrArg of a great N", deltas(d(2, maxStake)), api.ErrArg, 0, 7},
		{"ErrArg of all together", deltas(d(7, maxStake-1), d(2, maxStake-1)), api.ErrArg, 0, 7},
	} {
		for _, since := range []string{"New", "the last Apply"} {
			p := start(t, name(1))
			p.grow(t, [2]int{2, 1})
			p.renew(t)
			if since == "the last Apply" {
				p.done(t, d(1, 4))
			}
			p.grow(t, [2]int{7, 1}, [2]int{8, 7})
			p.best(t, c.what+", since "+since, 1, 2)
			p.best(t, c.what+", since "+since, 7, -1)
			p.head(t, c.what+", since "+since, 2)
			p.weighs(t, 7, 0, 0)
			p.weighs(t, 8, 0, 0)
			p.same(t)
			if e := p.apply(t, c.list...); e != c.want {
				t.Fatalf("%s: %d", c.what, e)
			}
			p.same(t)
			p.best(t, c.what, 1, c.best)
			p.best(t, c.what, 7, 8)
			p.weighs(t, 7, c.own, c.own)
		}
	}
}

// P11.1: blocks that came since are no one's children, whatever they stand below, and however much all others weigh.
func TestCameSinceBelowOthers(t *testing.T) {
	p := start(t, name(1))
	p.grow(t, [2]int{2, 1}, [2]int{3, 1}, [2]int{4, 2})
	p.done(t, d(2, 3), d(3, 3), d(4, 2), d(1, 9))
	p.head(t, "four blocks", 4)
	before := p.asked()
	p.grow(t, [2]int{9, 1}, [2]int{10, 4}, [2]int{11, 3}, [2]int{12, 9}, [2]int{13, 12}, [2]int{14, 10})
	p.same(t)
	if after := p.asked(); !slices.Equal(after[:4], before[:4]) || p.w.Head() != name(4) {
		t.Error("blocks that came since changed others")
	}
	p.done(t)
	p.head(t, "they are known", 14)
	p.best(t, "they are known", 1, 2)
	p.best(t, "they are known", 9, 12)
	p.best(t, "they are known", 3, 11)
	p.grow(t, [2]int{15, 14})
	p.head(t, "one more", 14)
	p.done(t, d(15, 0))
	p.head(t, "one more, known", 15)
	p.grow(t, [2]int{16, 15})
	p.refused(t, api.ErrNone, d(17, 0))
	p.head(t, "one more, known by an error", 16)
}

// P11.1: Apply of no deltas, of one, of many, and of several for one block.
func TestApply(t *testing.T) {
	p := start(t, name(1))
	p.grow(t, [2]int{2, 1}, [2]int{3, 2}, [2]int{4, 1})
	p.done(t)
	p.done(t, d(3, 5))
	p.weighs(t, 3, 5, 5)
	p.weighs(t, 2, 0, 5)
	p.weighs(t, 1, 0, 5)
	p.weighs(t, 4, 0, 0)
	p.done(t)
	p.weighs(t, 3, 5, 5)
	p.done(t, d(3, 1), d(2, 10), d(4, 100), d(1, 1000))
	p.weighs(t, 3, 6, 6)
	p.weighs(t, 2, 10, 16)
	p.weighs(t, 4, 100, 100)
	p.weighs(t, 1, 1000, 1116)
	p.done(t, d(3, 4), d(2, 1), d(3, -7), d(3, 2), d(2, 1), d(3, 0))
	p.weighs(t, 3, 5, 5)
	p.weighs(t, 2, 12, 17)
	p.done(t, d(3, -5), d(2, -12), d(4, -100), d(1, -1000))
	for n := 1; n <= 4; n++ {
		p.weighs(t, n, 0, 0)
	}
	var many []weigh.Delta
	for i := range 5000 {
		many = append(many, d(1+i%4, i%11))
	}
	p.done(t, many...)
}

// numbers are such as may stand in a delta, or may not, around each edge.
func numbers() []int {
	return []int{
		math.MinInt, math.MinInt + 1, math.MinInt + 5, -maxStake - 6, -maxStake - 1, -maxStake, -maxStake + 1, -maxStake + 2, -1 << 61,
		-1 << 32, -6, -5, -4, -1, 0, 1, 4, 5, 6, 1 << 31, 1 << 32, 1 << 61, maxStake - 7, maxStake - 6, maxStake - 5, maxStake - 2, maxStake - 1, maxStake, maxStake + 1,
		math.MaxInt - maxStake, math.MaxInt - 6, math.MaxInt - 1, math.MaxInt,
	}
}

// P11.1: N is above -2^62 and below 2^62, whatever the block's own weight; and its own weight stays from 0 to below MaxStake.
func TestNumbers(t *testing.T) {
	for _, own := range []int{0, 1, 5, 1 << 61, maxStake - 6, maxStake - 2, maxStake - 1} {
		for _, n := range numbers() {
			p := start(t, name(1))
			p.grow(t, [2]int{2, 1}, [2]int{3, 2})
			p.done(t, d(2, own))
			taken := n > -maxStake && n < maxStake && n >= -own && n < maxStake-own
			if !taken {
				p.refused(t, api.ErrArg, d(2, n))
				p.weighs(t, 2, own, own)
				continue
			}
			p.done(t, d(2, n))
			p.weighs(t, 2, own+n, own+n)
			p.weighs(t, 1, 0, own+n)
		}
	}
}

// P11.1: -MaxStake and MaxStake are refused even where they would lead to a weight that can be, in one delta, or in several.
func TestNumbersThatWouldCancel(t *testing.T) {
	p := start(t, name(1))
	p.grow(t, [2]int{2, 1})
	p.done(t, d(2, maxStake-1))
	p.refused(t, api.ErrArg, d(2, -maxStake), d(2, 1))
	p.refused(t, api.ErrArg, d(2, -maxStake), d(2, maxStake-1))
	p.refused(t, api.ErrArg, d(2, math.MinInt), d(2, math.MinInt))
	p.refused(t, api.ErrArg, d(2, math.MaxInt), d(2, math.MinInt), d(2, 1))
	p.done(t, d(2, -maxStake+1))
	p.weighs(t, 2, 0, 0)
	p.refused(t, api.ErrArg, d(2, maxStake), d(2, -1))
	p.refused(t, api.ErrArg, d(2, 1), d(2, maxStake), d(2, -2))
	p.done(t, d(2, maxStake-1))
	p.weighs(t, 2, maxStake-1, maxStake-1)
}

// P11.1: an own weight at its edges, by several deltas one behind the other: each step must be one that can be.
func TestOwnEdges(t *testing.T) {
	p := start(t, name(1))
	p.grow(t, [2]int{2, 1}, [2]int{3, 1})
	p.done(t, d(2, 5))
	p.done(t, d(2, -3), d(2, -2))
	p.weighs(t, 2, 0, 0)
	p.refused(t, api.ErrArg, d(2, -1))
	p.done(t, d(2, 5))
	p.refused(t, api.ErrArg, d(2, -6))
	p.refused(t, api.ErrArg, d(2, -3), d(2, -3))
	p.refused(t, api.ErrArg, d(2, -6), d(2, 6)) // each step counts
	p.refused(t, api.ErrArg, d(2, -5), d(2, -1), d(2, 9))
	p.refused(t, api.ErrArg, d(2, -5), d(3, 4), d(2, -1), d(2, 9))
	p.done(t, d(2, 6), d(2, -11))
	p.weighs(t, 2, 0, 0)
	p.done(t, d(2, 5))
	p.done(t, d(2, maxStake-6)) // just below
	p.weighs(t, 2, maxStake-1, maxStake-1)
	p.refused(t, api.ErrArg, d(2, 1))
	p.refused(t, api.ErrArg, d(2, maxStake-1))
	p.refused(t, api.ErrArg, d(2, 1), d(2, -1)) // each step counts
	p.refused(t, api.ErrArg, d(2, -1), d(2, 2), d(2, -9))
	p.done(t, d(2, -1), d(2, 1))
	p.done(t, d(2, -maxStake+1))
	p.weighs(t, 2, 0, 0)
	p.refused(t, api.ErrArg, d(2, maxStake-1), d(2, 1))
	p.refused(t, api.ErrArg, d(2, 1), d(2, maxStake-1))
	p.refused(t, api.ErrArg, d(2, maxStake-1), d(2, maxStake-1), d(2, maxStake-1), d(2, maxStake-1), d(2, 4))
	p.done(t, d(2, 1), d(2, maxStake-2))
	p.weighs(t, 2, maxStake-1, maxStake-1)
}

// P11.1: all own weights together are below MaxStake behind all deltas; between them they may be more, and where they would go round 64 bits they are more, too.
func TestTogether(t *testing.T) {
	p := start(t, name(1))
	p.grow(t, [2]int{2, 1}, [2]int{3, 2}, [2]int{4, 1}, [2]int{5, 4}, [2]int{6, 1}, [2]int{7, 6}, [2]int{8, 7})
	p.done(t, d(2, 1<<61), d(4, 1<<61-1))
	p.weighs(t, 1, 0, maxStake-1)
	for n := 1; n <= 8; n++ {
		p.refused(t, api.ErrArg, d(n, 1))
	}
	p.refused(t, api.ErrArg, d(3, 2), d(2, -1))
	p.done(t, d(3, 1), d(2, -1))
	p.done(t, d(8, 1<<61), d(4, -1<<61+1), d(2, -1)) // more between
	p.done(t, d(2, -1<<61+2), d(3, -1), d(8, -1<<61))
	p.weighs(t, 1, 0, 0)
	p.refused(t, api.ErrArg, d(1, 1<<61), d(8, 1<<61))
	p.done(t, d(1, 1<<61), d(8, 1<<61-1))
	p.done(t, d(8, -1<<61+1), d(1, -1<<61))
	for n := 2; n <= 8; n++ { // of five, all together would go round to just below MaxStake; of four, to below 0; of two, they don't go round
		var list, back []weigh.Delta
		for k := 1; k <= n; k++ {
			list = append(list, d(k, maxStake-1))
			if k > 1 {
				back = append(back, d(k, -maxStake+1))
			}
		}
		p.refused(t, api.ErrArg, list...)
		p.done(t, slices.Concat(list, back)...) // but for the first all are taken back
		p.weighs(t, 1, maxStake-1, maxStake-1)
		p.refused(t, api.ErrArg, list[1:]...)
		p.done(t, d(1, -maxStake+1))
	}
	p.refused(t, api.ErrArg, d(1, 1<<61), d(2, 1<<61), d(3, 1<<61), d(4, 1<<61), d(5, 1<<61), d(6, 1<<61), d(7, 1<<61), d(8, 1<<61)) // to 0
	p.refused(t, api.ErrArg, d(8, maxStake-1), d(1, 1))
	p.refused(t, api.ErrArg, d(1, maxStake-1), d(8, 1))
	p.weighs(t, 1, 0, 0)
}

// P11.1: a Root that the tree hasn't is ErrNone, whatever N; the same one once it came.
func TestNone(t *testing.T) {
	p := start(t, name(1))
	p.grow(t, [2]int{2, 1})
	p.done(t, d(1, 3), d(2, 4))
	for _, n := range numbers() {
		for _, root := range append(strangers(), name(3), name(0)) {
			p.refused(t, api.ErrNone, weigh.Delta{Root: root, N: n})
			p.refused(t, api.ErrNone, d(2, 1), weigh.Delta{Root: root, N: n})
			p.refused(t, api.ErrNone, weigh.Delta{Root: root, N: n}, d(2, 1))
		}
	}
	p.grow(t, [2]int{3, 2})
	p.done(t, d(3, 9))
	p.weighs(t, 3, 9, 9)
	p.weighs(t, 1, 3, 16)
}

// P11.1: of several errors the first delta's is answered, within a delta ErrNone comes first; all own weights together are asked behind all deltas.
func TestErrorsOrder(t *testing.T) {
	p := start(t, name(1))
	p.grow(t, [2]int{2, 1}, [2]int{3, 1})
	p.done(t, d(2, 5), d(3, 6))
	for _, c := range []struct {
		list []weigh.Delta
		want api.Errno
	}{
		{deltas(d(77, math.MinInt)), api.ErrNone}, // in one delta
		{deltas(d(77, maxStake)), api.ErrNone},
		{deltas(d(77, -1)), api.ErrNone},
		{deltas(d(77, 1), d(2, maxStake)), api.ErrNone}, // in several
		{deltas(d(77, 1), d(2, -6)), api.ErrNone},
		{deltas(d(2, maxStake), d(77, 1)), api.ErrArg},
		{deltas(d(2, -6), d(77, 1)), api.ErrArg},
		{deltas(d(2, maxStake-5), d(77, 1)), api.ErrArg},
		{deltas(d(2, 1), d(77, 1), d(2, maxStake)), api.ErrNone},
		{deltas(d(2, 1), d(2, -7), d(77, 1)), api.ErrArg},
		{deltas(d(2, maxStake-6), d(3, maxStake-7), d(77, 1)), api.ErrNone}, // together they are too much already, but that is asked last
		{deltas(d(2, maxStake-6), d(3, maxStake-7), d(3, 1), d(77, 1)), api.ErrArg},
		{deltas(d(2, maxStake-6), d(3, maxStake-7)), api.ErrArg},
		{deltas(d(77, maxStake-1), d(2, maxStake-6), d(3, maxStake-7)), api.ErrNone},
	} {
		p.refused(t, c.want, c.list...)
	}
	p.weighs(t, 1, 0, 11)
}

// P11.1: with an error no weight changes, whichever delta it is of; behind one that was made good, all change.
func TestMadeGood(t *testing.T) {
	p := start(t, name(1))
	p.grow(t, [2]int{2, 1}, [2]int{3, 2}, [2]int{4, 2}, [2]int{5, 1})
	p.done(t, d(1, 1), d(2, 2), d(3, 3), d(4, 4), d(5, 5))
	good := deltas(d(3, 2), d(5, 9), d(1, -1), d(4, -4), d(2, 7))
	for _, bad := range []weigh.Delta{d(77, 1), d(3, maxStake), d(3, -6), d(2, -3), d(5, maxStake-5), d(2, math.MinInt), d(1, math.MaxInt), d(1, -2), d(3, maxStake-6)} {
		want := api.ErrArg
		if bad.Root == name(77) {
			want = api.ErrNone
		}
		p.refused(t, want, bad)
		for at := range len(good) + 1 {
			list := slices.Insert(slices.Clone(good), at, bad)
			if p.model.copied().apply(list) == api.OK {
				continue // the deltas ahead of it made it good
			}
			p.refused(t, want, list...)
			p.head(t, "behind an error", 4)
		}
	}
	p.done(t, good...)
	p.weighs(t, 1, 0, 28)
	p.weighs(t, 2, 9, 14)
	p.weighs(t, 3, 5, 5)
	p.weighs(t, 4, 0, 0)
	p.weighs(t, 5, 14, 14)
	p.best(t, "made good", 1, 5)
	p.head(t, "made good", 5)
}

// copied answers another model that holds the same.
func (m *model) copied() *model {
	other := &model{}
	for _, b := range m.blocks {
		other.blocks = append(other.blocks, &block{b.root, b.parent, new(big.Int).Set(b.own), b.known})
	}
	return other
}

// parents are trees of so many blocks, told by each block's parent (of the first one nothing).
func parents(kind string, size int, r *rand.Rand) []int {
	list := make([]int, size)
	for i := 1; i < size; i++ {
		switch kind {
		case "chain":
			list[i] = i - 1
		case "star":
			list[i] = 0
		case "two chains":
			list[i] = max(0, i-2)
		case "twos":
			list[i] = (i - 1) / 2
		case "broom":
			list[i] = min(i-1, size/2)
		case "comb":
			list[i] = (i - 1) &^ 1
		default:
			list[i] = r.Intn(i)
		}
	}
	return list
}

// kinds are the names of those trees.
func kinds() []string {
	return []string{"chain", "star", "two chains", "twos", "broom", "comb", "any"}
}

// planted answers weights of such a tree, whose names neither rise nor fall; and the names by place.
func planted(t *testing.T, kind string, size int, r *rand.Rand) (*pair, []api.Root) {
	t.Helper()
	var names []api.Root
	for _, n := range r.Perm(size) {
		names = append(names, name(n))
	}
	p := start(t, names[0])
	for i, parent := range parents(kind, size, r) {
		if i > 0 {
			p.add(t, names[i], names[parent])
		}
	}
	return p, names
}

// P11.1, P11.2: weights of leaves, of parents and of the first block, in chains, stars and trees with branches, deltas coming in unlike orders.
func TestShapes(t *testing.T) {
	r := rand.New(rand.NewSource(21))
	for _, kind := range kinds() {
		for _, size := range []int{1, 2, 3, 4, 7, 16, 33} {
			p, names := planted(t, kind, size, r)
			p.done(t)
			for _, order := range [][]int{r.Perm(size), rising(size), falling(size), r.Perm(size)} {
				for k, i := range order {
					p.done(t, weigh.Delta{Root: names[i], N: 1 + (k*k+i)%5})
				}
			}
			var back []weigh.Delta
			for _, i := range r.Perm(size) {
				back = append(back, weigh.Delta{Root: names[i], N: -p.w.Own(names[i])})
			}
			p.done(t, back...)
			if got := p.w.Weight(names[0]); got != 0 {
				t.Fatalf("%s of %d: %d is left", kind, size, got)
			}
		}
	}
}

// rising answers numbers from 0 on.
func rising(n int) []int {
	var list []int
	for i := range n {
		list = append(list, i)
	}
	return list
}

// falling answers them the other way round.
func falling(n int) []int {
	list := rising(n)
	slices.Reverse(list)
	return list
}

// P11.1, P11.2: trees as great as they may be.
func TestGreatest(t *testing.T) {
	r := rand.New(rand.NewSource(22))
	for _, kind := range kinds() {
		p, names := planted(t, kind, maxNodes, r)
		p.done(t)
		var list []weigh.Delta
		for i, root := range names {
			list = append(list, weigh.Delta{Root: root, N: maxStake/maxNodes - i%2})
		}
		p.done(t, list...)
		last := names[len(names)-1]
		p.done(t, weigh.Delta{Root: last, N: maxNodes/2 - 1}) // just below MaxStake
		if got := p.w.Weight(names[0]); got != maxStake-1 {
			t.Fatalf("%s: %d", kind, got)
		}
		p.refused(t, api.ErrArg, weigh.Delta{Root: last, N: 1})
		p.refused(t, api.ErrArg, weigh.Delta{Root: names[0], N: 1})
		p.done(t, weigh.Delta{Root: names[0], N: -5}, weigh.Delta{Root: last, N: 5})
	}
}

// P11.1: the best child of a block without children, of one with one child, whatever that weighs, of a block that isn't known, and of a name that isn't there.
func TestBest(t *testing.T) {
	p := start(t, name(1))
	p.best(t, "one block", 1, -1)
	p.grow(t, [2]int{2, 1})
	p.best(t, "it isn't known", 1, -1)
	p.best(t, "not known", 2, -1)
	p.done(t)
	p.best(t, "one child, of the weight 0", 1, 2)
	p.best(t, "without children", 2, -1)
	p.done(t, d(1, 100))
	p.best(t, "one child, its parent weighs more", 1, 2)
	p.done(t, d(2, 3))
	p.best(t, "one child", 1, 2)
	p.grow(t, [2]int{3, 2}, [2]int{4, 3})
	p.best(t, "not known", 3, -1)
	p.best(t, "its child isn't known", 2, -1)
	for _, root := range append(strangers(), name(77), name(0)) {
		if got, ok := p.w.Best(root); ok || got != (api.Root{}) {
			t.Errorf("of a name that isn't there: %x, %v", got, ok)
		}
	}
	p.same(t)
}

// P11.1: of two children that came in either order, the one that weighs more is the best, else the one with the greater name.
func TestBestOfTwo(t *testing.T) {
	for _, c := range []struct {
		what string
		a, b api.Root // b is the greater one
	}{
		{"the first byte alone", api.Root{1, 9, 31: 9}, api.Root{2, 9, 31: 9}},
		{"the first byte, from 128 on", api.Root{0x7f, 1}, api.Root{0x80, 0}},
		{"the first byte, the others the other way", api.Root{0, 255, 31: 255}, api.Root{255}},
		{"the last byte alone", api.Root{5, 31: 1}, api.Root{5, 31: 2}},
		{"the last byte, from 128 on", api.Root{5, 31: 0x7f}, api.Root{5, 31: 0x80}},
		{"a byte in between", api.Root{5, 15: 1, 31: 200}, api.Root{5, 15: 3}},
		{"the name of bytes 0", api.Root{}, api.Root{31: 1}},
	} {
		for _, list := range [][]api.Root{{c.a, c.b}, {c.b, c.a}} {
			for _, own := range [][2]int{{0, 0}, {0, 1}, {1, 0}, {1, 1}, {7, 7}, {7, 8}, {8, 7}, {1 << 60, 1 << 60}, {1<<60 + 1, 1 << 60}, {maxStake - 1, 0}, {0, maxStake - 1}, {1 << 32, 1}, {1, 1 << 32}} {
				p := start(t, name(77))
				p.add(t, list[0], name(77))
				p.add(t, list[1], name(77))
				p.done(t, weigh.Delta{Root: c.a, N: own[0]}, weigh.Delta{Root: c.b, N: own[1]})
				want := c.b
				if own[0] > own[1] {
					want = c.a
				}
				if got, ok := p.w.Best(name(77)); !ok || got != want || p.w.Head() != want {
					t.Errorf("%s, weights %v: %x, %v, the head is %x", c.what, own, got, ok, p.w.Head())
				}
			}
		}
	}
}

// P11.1: of many children, in unlike orders: the heaviest one; of the heaviest ones the one with the greatest name, not the one with the greatest of all.
func TestBestOfMany(t *testing.T) {
	r := rand.New(rand.NewSource(23))
	for range 60 {
		p := start(t, name(200))
		for _, n := range r.Perm(12) {
			p.add(t, name(n), name(200))
		}
		p.done(t)
		p.best(t, "all weigh 0", 200, 11)
		p.done(t, d(3, 5), d(7, 5), d(5, 5), d(11, 4), d(10, 1))
		p.best(t, "three weigh the same", 200, 7)
		p.done(t, d(7, -1))
		p.best(t, "two weigh the same", 200, 5)
		p.done(t, d(3, 1))
		p.best(t, "one weighs most", 200, 3)
		p.done(t, d(0, 7))
		p.best(t, "another one weighs most", 200, 0)
		p.done(t, d(0, -7), d(3, -6), d(7, -4), d(5, -5), d(11, -4), d(10, -1))
		p.best(t, "all weigh 0 again", 200, 11)
	}
}

// P11.1: a best child changes when another one comes to weigh more, or it itself less, also far above the block of the delta, and the head with it.
func TestBestChanges(t *testing.T) {
	p := start(t, name(100))
	p.grow(t, [2]int{1, 100}, [2]int{51, 100})
	for i := 2; i <= 20; i++ { // two chains below one block
		p.grow(t, [2]int{i, i - 1}, [2]int{50 + i, 49 + i})
	}
	p.done(t)
	p.best(t, "nothing weighs", 100, 51)
	p.head(t, "nothing weighs", 70)
	p.done(t, d(20, 3))
	p.best(t, "the last of the lesser chain weighs", 100, 1)
	p.head(t, "the last of the lesser chain weighs", 20)
	p.done(t, d(60, 3))
	p.best(t, "one of the greater chain weighs as much", 100, 51)
	p.head(t, "one of the greater chain weighs as much", 70)
	p.done(t, d(7, 1))
	p.best(t, "the lesser chain weighs more", 100, 1)
	p.head(t, "the lesser chain weighs more", 20)
	p.done(t, d(20, -1))
	p.best(t, "it itself weighs less", 100, 51)
	p.done(t, d(60, -2))
	p.best(t, "the other one weighs less", 100, 1)
	p.head(t, "the other one weighs less", 20)
	p.grow(t, [2]int{200, 10})
	p.head(t, "a branch that isn't known", 20)
	p.done(t)
	p.head(t, "a branch by its name, but it weighs less", 20)
	p.done(t, d(200, 2))
	p.head(t, "a branch that weighs as much", 200)
	p.done(t, d(200, -1))
	p.head(t, "a branch that weighs less", 20)
	p.done(t, d(200, 1), d(70, 9))
	p.head(t, "the other chain", 70)
	p.best(t, "a best child off the way", 10, 200)
}

// P11.1: the head of one block, of chains, and of a tree whose best way changes; a lighter block far down doesn't draw it.
func TestHead(t *testing.T) {
	p := start(t, name(1))
	p.head(t, "one block", 1)
	p.done(t, d(1, 5))
	p.head(t, "one block that weighs", 1)
	for i := 2; i < 60; i++ {
		p.grow(t, [2]int{i, i - 1})
		p.head(t, "a chain, its last one isn't known", i-1)
		p.done(t)
		p.head(t, "a chain", i)
	}
	p.done(t, d(30, 8))
	p.head(t, "a chain, with a block in it that weighs", 59)
	p.grow(t, [2]int{200, 30}, [2]int{201, 29})
	p.done(t)
	p.head(t, "a child of a greater name", 200)
	p.done(t, d(45, 1))
	p.head(t, "the chain weighs more", 59)
	p.done(t, d(201, 8))
	p.head(t, "a branch that weighs less than all the rest", 59)
	p.done(t, d(201, 1))
	p.head(t, "a branch that weighs as much", 201)
	p.done(t, d(30, 1))
	p.head(t, "a branch that weighs less again", 59)
	p.done(t, d(2, 100))
	p.head(t, "further up nothing branches", 59)
}

// P11.1: the name of 32 bytes 0 is one as any other: where no block has it, of the first block, and of others.
func TestZeroName(t *testing.T) {
	var zero api.Root
	p := start(t, name(1))
	p.grow(t, [2]int{2, 1})
	p.done(t, d(2, 4))
	p.refused(t, api.ErrNone, weigh.Delta{Root: zero, N: 1})
	p.refused(t, api.ErrNone, weigh.Delta{})
	p.add(t, zero, name(1))
	p.same(t)
	p.done(t, weigh.Delta{Root: zero, N: 5})
	if got, ok := p.w.Best(name(1)); !ok || got != zero || p.w.Head() != zero {
		t.Errorf("the best child: %x, %v, the head is %x", got, ok, p.w.Head())
	}
	p.done(t, weigh.Delta{Root: zero, N: -1})
	p.best(t, "it weighs the same, and has the lesser name", 1, 2)
	p.add(t, name(3), zero)
	p.done(t, d(3, 7))
	p.head(t, "below it", 3)
	if p.w.Own(zero) != 4 || p.w.Weight(zero) != 11 {
		t.Errorf("it weighs %d, and %d", p.w.Own(zero), p.w.Weight(zero))
	}

	p = start(t, zero)
	p.done(t, weigh.Delta{N: 3})
	if p.w.Own(zero) != 3 || p.w.Weight(zero) != 3 || p.w.Head() != zero {
		t.Error("as the first block")
	}
	p.add(t, name(1), zero)
	p.add(t, name(2), name(1))
	p.done(t, d(1, 2), weigh.Delta{N: -1})
	if p.w.Weight(zero) != 4 {
		t.Errorf("as the first block it weighs %d", p.w.Weight(zero))
	}
	p.head(t, "below it", 2)
}

// P11.1: weights are the tree's, itself; two weights of one tree know nothing of one another, and learn of its blocks each by its own Apply.
func TestTwoOfOneTree(t *testing.T) {
	a := start(t, name(1))
	b := &pair{tree: a.tree, model: a.model.copied()}
	b.renew(t)
	if a.w == b.w {
		t.Fatal("New answers weights that were there already")
	}
	a.grow(t, [2]int{2, 1}, [2]int{3, 1})
	b.model.add(name(2), name(1))
	b.model.add(name(3), name(1))
	a.done(t, d(2, 5))
	b.same(t)
	b.weighs(t, 2, 0, 0)
	b.head(t, "it knows none", 1)
	a.head(t, "it knows all", 2)
	b.done(t, d(3, 1))
	b.head(t, "it knows all", 3)
	a.same(t)
	a.head(t, "the other one's delta", 2)
	a.refused(t, api.ErrArg, d(3, -1))
	b.refused(t, api.ErrArg, d(2, -1))
	a.done(t, d(3, maxStake-6))
	b.done(t, d(2, maxStake-2))
	a.same(t)
	c := weigh.New(a.tree)
	if c.Weight(name(1)) != 0 || c.Own(name(2)) != 0 || c.Head() != name(3) {
		t.Error("new weights of the tree aren't new")
	}
}

// P11.1: weights of two trees, with the same names, know nothing of one another.
func TestTwoTrees(t *testing.T) {
	a, b := start(t, name(1)), start(t, name(1))
	a.grow(t, [2]int{2, 1}, [2]int{3, 2}, [2]int{4, 1})
	b.grow(t, [2]int{4, 1}, [2]int{2, 4}, [2]int{3, 4})
	for i := range 12 {
		a.done(t, d(1+i%4, 1+i))
		b.same(t)
		b.done(t, d(4-i%4, i))
		a.same(t)
	}
	b.grow(t, [2]int{5, 3})
	b.done(t, d(5, 1))
	a.refused(t, api.ErrNone, d(5, 1))
	a.grow(t, [2]int{6, 3})
	b.refused(t, api.ErrNone, d(6, 1))
	a.same(t)
}

// Rule 3: deltas handed in are as they were, spare room included, and aren't kept.
func TestDeltasStay(t *testing.T) {
	p := start(t, name(1))
	p.grow(t, [2]int{2, 1}, [2]int{3, 1})
	for _, list := range [][]weigh.Delta{
		deltas(d(2, 5), d(3, 4), d(2, -1)), deltas(d(2, 1), d(77, 5)), deltas(d(3, 1), d(2, maxStake)), deltas(d(3, maxStake-9), d(2, maxStake-9)), nil,
	} {
		room := append(make([]weigh.Delta, 0, len(list)+4), list...)
		whole := room[:cap(room)]
		for i := len(list); i < len(whole); i++ {
			whole[i] = d(2, 1000+i)
		}
		before := slices.Clone(whole)
		p.apply(t, room...)
		if !slices.Equal(whole, before) {
			t.Errorf("Apply of %s changed what was handed in", tell(list))
		}
		for i := range whole {
			whole[i] = d(3, -9)
		}
		p.same(t)
	}
	p.weighs(t, 1, 0, 8)
}

// P11.1: no call of weights changes their tree.
func TestTreeStays(t *testing.T) {
	p := start(t, name(1))
	p.grow(t, [2]int{2, 1}, [2]int{3, 1}, [2]int{4, 2}, [2]int{5, 2})
	look := func() (list []any) {
		list = append(list, p.tree.Len(), p.tree.Room())
		for i, root := range p.tree.Roots() {
			n, _ := p.tree.Node(i)
			list = append(list, n, root, p.tree.Place(root))
			for _, kid := range p.tree.Kids(root) {
				list = append(list, kid)
			}
		}
		return list
	}
	before := look()
	p.done(t, d(4, 1), d(3, 5))
	p.refused(t, api.ErrNone, d(6, 1))
	p.refused(t, api.ErrArg, d(5, -1))
	p.renew(t)
	p.done(t, d(1, 1))
	if !slices.Equal(look(), before) {
		t.Error("the tree is another one")
	}
}

// P11.1: nil weights answer ErrNil, 0, 32 bytes 0 and false, whatever they are asked.
func TestNil(t *testing.T) {
	var w *weigh.Weights
	for range 2 {
		for _, list := range [][]weigh.Delta{nil, {}, {d(1, 1)}, {d(1, maxStake)}, {{}}, {d(1, math.MinInt), d(2, -1)}} {
			if e := w.Apply(list...); e != api.ErrNil {
				t.Errorf("Apply of %s: %d", tell(list), e)
			}
		}
		for _, root := range append(strangers(), name(1)) {
			if w.Own(root) != 0 || w.Weight(root) != 0 {
				t.Errorf("%x weighs %d, and %d", root, w.Own(root), w.Weight(root))
			}
			if got, ok := w.Best(root); ok || got != (api.Root{}) {
				t.Errorf("the best child of %x: %x, %v", root, got, ok)
			}
		}
		if got := w.Head(); got != (api.Root{}) {
			t.Errorf("the head: %x", got)
		}
	}
}

// P11.1, P11.2: calls as they come, good and wrong ones, with blocks that come between them.
func TestMixed(t *testing.T) {
	r := rand.New(rand.NewSource(24))
	for round := range 250 {
		names := 3 + r.Intn(20)
		great := round%5 == 0
		p := start(t, name(r.Intn(names)))
		for range 50 {
			switch r.Intn(5) {
			case 0, 1:
				p.mayAdd(t, name(r.Intn(names)), name(r.Intn(names)))
			case 2:
				p.same(t)
			default:
				p.apply(t, some(r, names, great)...)
			}
		}
		p.same(t)
		p.apply(t)
		p.same(t)
	}
}

// mayAdd lays a block into the tree, if it takes it.
func (p *pair) mayAdd(t *testing.T, root, parent api.Root) {
	t.Helper()
	if p.model.find(root) == nil && p.model.find(parent) != nil {
		p.add(t, root, parent)
	}
}

// some answers a few deltas; great ones are at the edges of what may be.
func some(r *rand.Rand, names int, great bool) []weigh.Delta {
	var list []weigh.Delta
	for range r.Intn(5) {
		n := r.Intn(12) - 4
		if great {
			edges := numbers()
			n = edges[r.Intn(len(edges))]
		}
		list = append(list, d(r.Intn(names), n))
	}
	return list
}

// P11.1: the same deltas in another order, or in more calls, lead to the same weights, as long as each may be.
func TestEveryOrder(t *testing.T) {
	r := rand.New(rand.NewSource(25))
	for range 60 {
		shape := parents("any", 14, r)
		plant := func() *pair {
			p := start(t, name(0))
			for i := 1; i < len(shape); i++ {
				p.grow(t, [2]int{i, shape[i]})
			}
			return p
		}
		var list []weigh.Delta
		for range 40 {
			list = append(list, d(r.Intn(len(shape)), r.Intn(9)))
		}
		a, b := plant(), plant()
		a.done(t, list...)
		for _, i := range r.Perm(len(list)) {
			b.done(t, list[i])
		}
		if !slices.Equal(a.asked(), b.asked()) {
			t.Fatalf("%s, in two orders: %v, %v", tell(list), a.asked(), b.asked())
		}
	}
}
