package votes_test

import (
	"bytes"
	"math"
	"math/rand"
	"slices"
	"strings"
	"testing"

	"toller/api"
	"toller/genesis"
	"toller/table"
	"toller/tree"
	"toller/votes"
)

const (
	maxStake = 1 << 62
	maxSlot  = 1 << 30
	maxNodes = 256
)

// The codes' numbers, by the chapters.
const (
	latest  = 0
	same    = 1
	double  = 2
	late    = 3
	out     = 4
	none    = 5
	unknown = 6
)

// name answers a name, another one for each number; that of 0 is all bytes 0.
func name(n int) api.Root {
	return api.Root{0: byte(n), 30: byte(n >> 8)}
}

// vote answers a validator's vote.
func vote(who, slot, target int) api.Vote {
	return api.Vote{Validator: who, Slot: slot, Target: name(target)}
}

// config answers a configuration with these stakes, epochs of four slots, and room for so many blocks.
func config(nodes int, stakes ...int) api.Config {
	c := api.Config{Epoch: 4, Committee: 1, Nodes: nodes, Orphans: 3, Early: 4, Quota: 2, Peers: 5, Bytes: 100, Window: 6, Ban: 10, Decay: 1}
	for _, n := range stakes {
		c.Validators = append(c.Validators, api.Validator{Stake: n, Key: "k"})
	}
	return c
}

// block is a block of a model.
type block struct {
	name, parent api.Root
	slot         int
}

// first is a first vote of a model: whose, of which epoch, for what.
type first struct {
	who, epoch int
	target     api.Root
}

// model is what a book should hold, in rows, by the chapters' words alone.
type model struct {
	config api.Config
	blocks []block
	counts []bool
	latest []*api.Vote
	firsts []first
}

// newModel answers a model of a book whose configuration can be.
func newModel(c api.Config) *model {
	n := len(c.Validators)
	return &model{c, []block{{name: genesis.Root(c)}}, slices.Repeat([]bool{true}, n), make([]*api.Vote, n), nil}
}

// find answers a block, and true; false, if it isn't there.
func (m *model) find(root api.Root) (block, bool) {
	for _, b := range m.blocks {
		if b.name == root {
			return b, true
		}
	}
	return block{}, false
}

// below answers whether a block is over, or stands below it. The parent of the first block counts as none.
func (m *model) below(over, root api.Root) bool {
	for {
		if root == over {
			return true
		}
		b, ok := m.find(root)
		if !ok || b == m.blocks[0] {
			return false
		}
		root = b.parent
	}
}

// kids answers a block's children, in the order in which they came.
func (m *model) kids(root api.Root) []api.Root {
	var list []api.Root
	for _, b := range m.blocks[1:] {
		if b.parent == root {
			list = append(list, b.name)
		}
	}
	return list
}

// own answers the stakes, together, of all validators that count and whose latest vote is for a block.
func (m *model) own(root api.Root) int {
	sum := 0
	if _, ok := m.find(root); !ok {
		return 0
	}
	for who, v := range m.latest {
		if v != nil && m.counts[who] && v.Target == root {
			sum += m.config.Validators[who].Stake
		}
	}
	return sum
}

// weight answers what the blocks weigh of their own that are root, or stand below it.
func (m *model) weight(root api.Root) int {
	sum := 0
	for _, b := range m.blocks {
		if m.below(root, b.name) {
			sum += m.own(b.name)
		}
	}
	return sum
}

// head goes from the first block on to the child that weighs most, or has the greatest name of these.
func (m *model) head() api.Root {
	root := m.blocks[0].name
	for {
		kids := m.kids(root)
		if len(kids) == 0 {
			return root
		}
		root = slices.MaxFunc(kids, func(a, b api.Root) int {
			if d := m.weight(a) - m.weight(b); d != 0 {
				return d
			}
			return bytes.Compare(a[:], b[:])
		})
	}
}

// add answers what should become of a block.
func (m *model) add(root, parent api.Root, slot int) api.Errno {
	over, ok := m.find(parent)
	switch _, twice := m.find(root); {
	case twice:
		return api.ErrTwice
	case !ok || over.slot >= slot || slot > maxSlot:
		return api.ErrParent
	case len(m.blocks) >= m.config.Nodes:
		return api.ErrFull
	}
	m.blocks = append(m.blocks, block{root, parent, slot})
	return api.OK
}

// take answers what should become of a vote.
func (m *model) take(v api.Vote) table.Code {
	b, ok := m.find(v.Target)
	switch {
	case !ok || b.slot > v.Slot:
		return unknown
	case v.Validator < 0 || v.Validator >= len(m.counts) || v.Slot < 0 || v.Slot > maxSlot:
		return none
	case !m.counts[v.Validator]:
		return out
	}
	epoch := v.Slot / m.config.Epoch
	for _, f := range m.firsts {
		if f.who == v.Validator && f.epoch == epoch {
			if f.target == v.Target {
				return same
			}
			m.counts[v.Validator] = false
			return double
		}
	}
	m.firsts = append(m.firsts, first{v.Validator, epoch, v.Target})
	if l := m.latest[v.Validator]; l != nil && l.Slot/m.config.Epoch > epoch {
		return late
	}
	m.latest[v.Validator] = &v
	return latest
}

// keep answers what should become of a block that is to be the first one.
func (m *model) keep(root api.Root) api.Errno {
	if _, ok := m.find(root); !ok {
		return api.ErrNone
	}
	var left []block
	for _, b := range m.blocks {
		if m.below(root, b.name) {
			left = append(left, b)
		}
	}
	m.blocks = left
	return api.OK
}

// forget lets go of the first votes of epochs below a slot's.
func (m *model) forget(slot int) {
	if slot >= 0 {
		m.firsts = slices.DeleteFunc(m.firsts, func(f first) bool { return f.epoch < slot/m.config.Epoch })
	}
}

// watch is a book, the model of it, and the names that are asked for beside those that are there.
type watch struct {
	book  *votes.Book
	model *model
	names []api.Root
}

// start answers a book, and its model.
func start(t *testing.T, c api.Config) *watch {
	t.Helper()
	b := votes.New(c)
	if b == nil {
		t.Fatalf("%v: no book", c)
	}
	w := &watch{b, newModel(c), []api.Root{{}, {31: 1}, name(250), genesis.Root(c)}}
	w.same(t)
	return w
}

// first answers the name of the first block, as it was at first.
func (w *watch) first() api.Root {
	return genesis.Root(w.model.config)
}

// same holds all that the book answers against its model.
func (w *watch) same(t *testing.T) {
	t.Helper()
	w.sameTree(t)
	w.sameTable(t)
	if got, want := w.book.Head(), w.model.head(); got != want {
		t.Fatalf("the head is %x, want %x", got, want)
	}
	for _, root := range w.names {
		if got, want := w.book.Weight(root), w.model.weight(root); got != want {
			t.Fatalf("%x weighs %d, want %d", root, got, want)
		}
	}
	w.bounds(t)
}

// sameTree holds the tree that the book answers against the model's blocks.
func (w *watch) sameTree(t *testing.T) {
	t.Helper()
	x, m := w.book.Tree(), w.model
	if x == nil || x != w.book.Tree() {
		t.Fatal("Tree answers another one")
	}
	if x.Len() != len(m.blocks) || x.Room() != m.config.Nodes-len(m.blocks) {
		t.Fatalf("%d blocks, and room for %d, want %d of %d", x.Len(), x.Room(), len(m.blocks), m.config.Nodes)
	}
	for i, b := range m.blocks {
		parent := slices.IndexFunc(m.blocks[:i], func(over block) bool { return over.name == b.parent })
		if i == 0 {
			parent = -1
		}
		if n, ok := x.Node(i); !ok || n != (tree.Node{Root: b.name, Slot: b.slot, Parent: parent}) || x.Place(b.name) != i {
			t.Fatalf("at the place %d stands %v, want %v", i, n, b)
		}
		if got, want := w.book.Weight(b.name), m.weight(b.name); got != want {
			t.Fatalf("%x weighs %d, want %d", b.name, got, want)
		}
	}
}

// sameTable holds the table that the book answers against the model's votes.
func (w *watch) sameTable(t *testing.T) {
	t.Helper()
	x, m := w.book.Table(), w.model
	if x == nil || x != w.book.Table() {
		t.Fatal("Table answers another one")
	}
	if x.Marks() != len(m.firsts) {
		t.Fatalf("%d first votes are known, want %d", x.Marks(), len(m.firsts))
	}
	for who, counts := range m.counts {
		var want api.Vote
		if l := m.latest[who]; l != nil {
			want = *l
		}
		if v, ok := x.Vote(who); v != want || ok != (m.latest[who] != nil) || x.Counts(who) != counts {
			t.Fatalf("the latest vote of %d is %v, %v, want %v; it counts: %v", who, v, ok, want, x.Counts(who))
		}
	}
	if x.Counts(len(m.counts)) || x.Counts(-1) {
		t.Fatal("one counts that isn't there")
	}
}

// own answers a block's own weight by what the book answers: what it weighs, but for its children.
func (w *watch) own(root api.Root) int {
	n := w.book.Weight(root)
	for _, kid := range w.book.Tree().Kids(root) {
		n -= w.book.Weight(kid)
	}
	return n
}

// bounds holds own weights against the table's latest votes, summed anew, and the first block's weight against the stakes that count.
func (w *watch) bounds(t *testing.T) {
	t.Helper()
	x, all := w.book.Table(), 0
	owns := map[api.Root]int{}
	for who, v := range w.model.config.Validators {
		if x.Counts(who) {
			all += v.Stake
			if l, ok := x.Vote(who); ok {
				owns[l.Target] += v.Stake
			}
		}
	}
	for _, root := range w.book.Tree().Roots() {
		if got := w.own(root); got != owns[root] {
			t.Fatalf("%x weighs %d of its own, the latest votes' stakes are %d", root, got, owns[root])
		}
	}
	if got := w.book.Weight(w.model.blocks[0].name); got > all || got < 0 {
		t.Fatalf("the first block weighs %d, all that count have %d", got, all)
	}
}

// add holds the answer to a block against a number, and all that is answered behind it against the model.
func (w *watch) add(t *testing.T, root, parent api.Root, slot int, want api.Errno) {
	t.Helper()
	if m := w.model.add(root, parent, slot); m != want {
		t.Fatalf("the model says %d of %x, the test %d", m, root, want)
	}
	if got := w.book.Add(root, parent, slot); got != want {
		t.Fatalf("Add of %x behind %x in the slot %d: %d, want %d", root, parent, slot, got, want)
	}
	w.names = append(w.names, root)
	w.same(t)
}

// take does so with a vote.
func (w *watch) take(t *testing.T, v api.Vote, want table.Code) {
	t.Helper()
	if m := w.model.take(v); m != want {
		t.Fatalf("the model says %d of %v, the test %d", m, v, want)
	}
	if got := w.book.Take(v); got != want {
		t.Fatalf("Take of %v: %d, want %d", v, got, want)
	}
	w.same(t)
}

// keep does so with a block that is to be the first one.
func (w *watch) keep(t *testing.T, root api.Root, want api.Errno) {
	t.Helper()
	if m := w.model.keep(root); m != want {
		t.Fatalf("the model says %d of %x, the test %d", m, root, want)
	}
	if got := w.book.Keep(root); got != want {
		t.Fatalf("Keep of %x: %d, want %d", root, got, want)
	}
	w.same(t)
}

// forget does so with a slot; so many first votes are known from then on.
func (w *watch) forget(t *testing.T, slot, left int) {
	t.Helper()
	w.model.forget(slot)
	w.book.Forget(slot)
	if got := w.book.Table().Marks(); got != left {
		t.Fatalf("behind Forget of %d: %d first votes are known, want %d", slot, got, left)
	}
	w.same(t)
}

// head holds the head, and what some blocks weigh, told by numbers: block, weight, block, weight, and so on. (0, as a block: the first one of all.)
func (w *watch) head(t *testing.T, head int, weights ...int) {
	t.Helper()
	if got := w.book.Head(); got != w.at(head) {
		t.Fatalf("the head is %x, want %d", got, head)
	}
	for i := 0; i < len(weights); i += 2 {
		if got := w.book.Weight(w.at(weights[i])); got != weights[i+1] {
			t.Fatalf("%d weighs %d, want %d", weights[i], got, weights[i+1])
		}
	}
}

// at answers the name that has a number in tests with a tree.
func (w *watch) at(n int) api.Root {
	if n == 0 {
		return w.first()
	}
	return name(n)
}

// grown answers a book with blocks behind the first one: 1 and 2 behind it, 3 and 4 behind 1, 5 behind 2, 6 behind 3; in slots of these numbers.
func grown(t *testing.T, stakes ...int) *watch {
	t.Helper()
	w := start(t, config(9, stakes...))
	for _, x := range [][2]int{{1, 0}, {2, 0}, {3, 1}, {4, 1}, {5, 2}, {6, 3}} {
		w.add(t, name(x[0]), w.at(x[1]), x[0], api.OK)
	}
	return w
}

// P14.1: the chapter's example: a vote for a block that came later than its slot. One of the block's slot isn't Unknown.
func TestExample(t *testing.T) {
	w := start(t, config(9, 5))
	w.add(t, name(1), w.first(), 7, api.OK)
	w.take(t, vote(0, 6, 1), unknown)
	w.take(t, vote(0, 7, 1), latest)
	w.head(t, 1, 1, 5, 0, 5)
}

// P14.1: Unknown is 6, and unlike all of the table's codes.
func TestUnknown(t *testing.T) {
	got := []table.Code{table.Latest, table.Same, table.Double, table.Late, table.Out, table.None, votes.Unknown}
	if !slices.Equal(got, []table.Code{0, 1, 2, 3, 4, 5, 6}) {
		t.Errorf("%v", got)
	}
}

// P14.1: a new book has the first block alone, of the slot 0, which weighs 0 and is the head, room for Nodes, and all validators count; in epochs of the configuration's Epoch.
func TestNew(t *testing.T) {
	for _, validators := range []int{1, 2, 3, 63, 64} {
		for _, nodes := range []int{1, 2, 9, 255, 256} {
			for _, epoch := range []int{1, 2, 7, 31, 32} {
				c := config(nodes, slices.Repeat([]int{3}, validators)...)
				c.Epoch = epoch
				fresh(t, c)
			}
		}
	}
}

// fresh holds what a new book answers, and that its epochs are as long as they should be.
func fresh(t *testing.T, c api.Config) {
	t.Helper()
	w := start(t, c)
	g := genesis.Root(c)
	if n, ok := w.book.Tree().Node(0); !ok || n != (tree.Node{Root: g, Slot: 0, Parent: -1}) || w.book.Tree().Len() != 1 || w.book.Tree().Room() != c.Nodes-1 {
		t.Fatalf("%v: %v", c, n)
	}
	if w.book.Head() != g || w.book.Weight(g) != 0 || w.book.Table().Marks() != 0 {
		t.Fatalf("%v: the head is %x, of %d", c, w.book.Head(), w.book.Weight(g))
	}
	last := len(c.Validators) - 1
	for _, who := range []int{-1, 0, last, last + 1} {
		if got := w.book.Table().Counts(who); got != (who >= 0 && who <= last) {
			t.Fatalf("%v: whether %d counts: %v", c, who, got)
		}
	}
	at := api.Vote{Validator: last, Target: g}
	w.take(t, at, latest)
	at.Slot = c.Epoch - 1
	w.take(t, at, same)
	at.Slot = c.Epoch
	w.take(t, at, latest)
	at.Validator++
	w.take(t, at, none)
}

// P14.1: of a configuration that can't be there is no book.
func TestNewOfNone(t *testing.T) {
	for i, spoil := range []func(c *api.Config){
		func(c *api.Config) { *c = api.Config{} },
		func(c *api.Config) { c.Validators = nil },
		func(c *api.Config) { c.Validators = slices.Repeat(c.Validators, 33) },
		func(c *api.Config) { c.Validators[1].Stake = -1 },
		func(c *api.Config) { c.Validators[1].Stake = math.MinInt },
		func(c *api.Config) { c.Validators[0].Stake = maxStake },
		func(c *api.Config) { c.Validators[0].Stake, c.Validators[1].Stake = maxStake/2, maxStake/2 },
		func(c *api.Config) { c.Validators[0].Stake, c.Validators[1].Stake = math.MaxInt, math.MaxInt },
		func(c *api.Config) { c.Validators[0].Key = "" },
		func(c *api.Config) { c.Validators[1].Key = strings.Repeat("k", 33) },
		func(c *api.Config) { c.Epoch = 0 },
		func(c *api.Config) { c.Epoch = 33 },
		func(c *api.Config) { c.Committee = 0 },
		func(c *api.Config) { c.Committee = 3 },
		func(c *api.Config) { c.Nodes = 0 },
		func(c *api.Config) { c.Nodes = -1 },
		func(c *api.Config) { c.Nodes = maxNodes + 1 },
		func(c *api.Config) { c.Orphans = 0 },
		func(c *api.Config) { c.Early = 65 },
		func(c *api.Config) { c.Quota = 0 },
		func(c *api.Config) { c.Peers = 17 },
		func(c *api.Config) { c.Bytes = 257 },
		func(c *api.Config) { c.Window = 65 },
		func(c *api.Config) { c.Ban = 0 },
		func(c *api.Config) { c.Decay = 1<<20 + 1 },
	} {
		c := config(9, 5, 3)
		if votes.New(c) == nil {
			t.Fatal("this one can be")
		}
		if spoil(&c); votes.New(c) != nil {
			t.Errorf("%d: there is a book of %v", i, c)
		}
	}
}

// P14.1: a nil book answers ErrNil, None, 32 bytes 0, 0 and nil, whatever it is asked.
func TestNil(t *testing.T) {
	var b *votes.Book
	for _, n := range []int{0, 1, 5, -1, 64, maxSlot, maxSlot + 1, math.MinInt, math.MaxInt} {
		for _, root := range []api.Root{{}, name(1), {31: 255}} {
			if e := b.Add(root, name(2), n); e != api.ErrNil {
				t.Errorf("Add: %d", e)
			}
			if e := b.Keep(root); e != api.ErrNil {
				t.Errorf("Keep: %d", e)
			}
			for _, slot := range []int{0, n} {
				if c := b.Take(api.Vote{Validator: n, Slot: slot, Target: root}); c != none {
					t.Errorf("Take: %d", c)
				}
			}
			if b.Weight(root) != 0 {
				t.Errorf("Weight: %d", b.Weight(root))
			}
		}
		b.Forget(n)
	}
	if b.Head() != (api.Root{}) || b.Tree() != nil || b.Table() != nil {
		t.Errorf("%x, %v, %v", b.Head(), b.Tree(), b.Table())
	}
	if b.Tree().Len() != 0 || b.Table().Marks() != 0 {
		t.Error("they can't be asked")
	}
}

// P14.1: what becomes of a block is what layer 10 says, and where it refuses nothing changes.
func TestAdd(t *testing.T) {
	w := grown(t, 5, 3)
	w.take(t, vote(0, 6, 3), latest)
	w.take(t, vote(1, 6, 2), latest)
	for _, c := range []struct {
		root, parent api.Root
		slot         int
		want         api.Errno
	}{
		{name(3), name(1), 3, api.ErrTwice}, {name(3), name(6), 9, api.ErrTwice}, {w.first(), name(6), 9, api.ErrTwice}, {name(3), name(3), 3, api.ErrTwice},
		{name(3), name(77), 9, api.ErrTwice}, {w.first(), w.first(), -1, api.ErrTwice}, {name(3), name(77), maxSlot + 1, api.ErrTwice},
		{name(7), name(77), 9, api.ErrParent}, {name(7), name(7), 9, api.ErrParent}, {name(7), api.Root{}, 9, api.ErrParent},
		{name(7), name(3), 3, api.ErrParent}, {name(7), name(3), 2, api.ErrParent}, {name(7), name(3), 0, api.ErrParent}, {name(7), name(3), -1, api.ErrParent}, {name(7), name(3), math.MinInt, api.ErrParent},
		{name(7), w.first(), 0, api.ErrParent}, {name(7), name(3), maxSlot + 1, api.ErrParent}, {name(7), name(3), 1 << 32, api.ErrParent}, {name(7), name(3), math.MaxInt, api.ErrParent},
		{name(7), name(3), 4, api.OK}, {name(8), name(7), maxSlot, api.OK},
		{name(9), name(6), 9, api.ErrFull}, {name(9), name(8), maxSlot, api.ErrParent}, {name(9), name(77), 9, api.ErrParent}, {name(8), name(7), maxSlot, api.ErrTwice},
	} {
		w.add(t, c.root, c.parent, c.slot, c.want)
		w.head(t, w.deep(), 0, 8, 1, 5, 2, 3, 3, 5, 7, 0, 8, 0)
	}
	one := start(t, config(1, 5))
	one.add(t, name(1), one.first(), 1, api.ErrFull)
	one.take(t, api.Vote{Slot: 3, Target: one.first()}, latest)
	one.add(t, name(1), one.first(), 1, api.ErrFull)
}

// deep answers the head of TestAdd's tree: the last of 6, 7 and 8 that is there.
func (w *watch) deep() int {
	for _, n := range []int{8, 7} {
		if w.book.Tree().Place(name(n)) >= 0 {
			return n
		}
	}
	return 6
}

// P14.1: a block that comes is known to the weights at once: it weighs 0, and is the head, if no other child of its parent weighs more, or as much with a greater name.
func TestAddIsKnown(t *testing.T) {
	w := start(t, config(9, 5, 3))
	w.head(t, 0, 0, 0)
	w.add(t, name(4), w.first(), 1, api.OK)
	w.head(t, 4, 4, 0)
	w.add(t, name(2), w.first(), 1, api.OK)
	w.head(t, 4)
	w.add(t, name(5), w.first(), 1, api.OK)
	w.head(t, 5)
	w.add(t, name(1), name(4), 2, api.OK)
	w.head(t, 5)
	w.take(t, vote(0, 1, 2), latest)
	w.head(t, 2, 2, 5)
	w.add(t, name(9), w.first(), 1, api.OK)
	w.head(t, 2, 9, 0)
	w.add(t, name(3), name(2), 2, api.OK)
	w.head(t, 3, 3, 0)
	w.take(t, vote(1, 2, 3), latest)
	w.head(t, 3, 3, 3, 2, 8, 0, 8)
}

// P14.1: a block that isn't there, or whose slot is above the vote's, is Unknown, whatever else; the vote's slot may be the block's.
func TestTakeUnknown(t *testing.T) {
	w := grown(t, 5, 3, 2)
	w.take(t, vote(0, 6, 3), latest)
	w.take(t, vote(1, 6, 3), latest)
	w.take(t, vote(1, 7, 4), double)
	for _, who := range []int{-1, 0, 1, 2, 3, 64, math.MinInt, math.MaxInt} {
		for _, slot := range []int{math.MinInt, -1, 0, 2, 4, 5, 6, 100, maxSlot, maxSlot + 1, math.MaxInt} {
			w.take(t, vote(who, slot, 77), unknown)
			w.take(t, api.Vote{Validator: who, Slot: slot}, unknown)
		}
		for target := 1; target <= 6; target++ {
			for _, slot := range []int{math.MinInt, -maxSlot, -1, 0, target - 2, target - 1} {
				w.take(t, vote(who, min(slot, target-1), target), unknown)
			}
		}
		w.take(t, api.Vote{Validator: who, Slot: -1, Target: w.first()}, unknown)
		w.take(t, api.Vote{Validator: who, Slot: math.MinInt, Target: w.first()}, unknown)
	}
	for target := 1; target <= 6; target++ {
		x := grown(t, 5, 3)
		x.take(t, vote(0, target-1, target), unknown)
		x.take(t, vote(0, target, target), latest)
		x.take(t, vote(1, target+1, target), latest)
		x.head(t, int(x.book.Head()[0]), target, 8, 0, 8)
	}
	far := start(t, config(3, 5, 6))
	far.add(t, name(1), far.first(), maxSlot, api.OK)
	far.take(t, vote(0, maxSlot-1, 1), unknown)
	far.take(t, vote(0, maxSlot, 1), latest)
	far.take(t, vote(1, maxSlot+1, 1), none)
	far.take(t, api.Vote{Validator: 1, Target: far.first()}, latest)
}

// P14.1: each of the table's codes comes through the book.
func TestTakeCodes(t *testing.T) {
	w := grown(t, 5, 3, 2)
	w.take(t, vote(0, 6, 3), latest)
	w.take(t, vote(0, 7, 3), same)
	w.take(t, vote(0, 3, 2), late)
	w.take(t, vote(0, 5, 4), double)
	w.take(t, vote(0, 9, 3), out)
	w.take(t, vote(3, 9, 3), none)
	w.take(t, vote(-1, 9, 3), none)
	w.take(t, vote(math.MinInt, 9, 3), none)
	w.take(t, vote(math.MaxInt, 9, 3), none)
	w.take(t, vote(1, maxSlot+1, 3), none)
	w.take(t, vote(1, math.MaxInt, 3), none)
	w.take(t, vote(0, maxSlot+1, 3), none)
	w.take(t, vote(1, maxSlot, 3), latest)
}

// P14.1: a validator's stake is laid on its first vote's block; a later one's block gets it, and the other one loses it.
func TestTakeMoves(t *testing.T) {
	w := grown(t, 5, 3, 0)
	w.head(t, 5, 0, 0) // none weighs anything: 2 is greater than 1
	w.take(t, vote(0, 4, 1), latest)
	w.head(t, 4, 0, 5, 1, 5, 2, 0, 3, 0, 4, 0)
	w.take(t, vote(1, 6, 6), latest)
	w.head(t, 6, 0, 8, 1, 8, 3, 3, 6, 3, 4, 0)
	w.take(t, vote(0, 8, 5), latest)
	w.head(t, 5, 0, 8, 1, 3, 2, 5, 5, 5, 3, 3, 6, 3)
	w.take(t, vote(0, 12, 5), latest) // the same block again, in a later epoch
	w.head(t, 5, 0, 8, 1, 3, 2, 5, 5, 5)
	w.take(t, vote(2, 8, 6), latest) // no stake: nothing weighs more
	w.head(t, 5, 0, 8, 1, 3, 2, 5, 5, 5, 6, 3)
	w.take(t, vote(0, 16, 6), latest)
	w.head(t, 6, 0, 8, 1, 8, 2, 0, 5, 0, 3, 8, 6, 8)
	w.take(t, api.Vote{Validator: 0, Slot: 20, Target: w.first()}, latest)
	w.head(t, 6, 0, 8, 1, 3, 2, 0, 3, 3, 6, 3)
}

// P14.1: Same, Late, Out and None change no weight and no head.
func TestTakeStays(t *testing.T) {
	w := grown(t, 5, 3, 2)
	w.take(t, vote(0, 9, 3), latest)
	w.take(t, vote(1, 9, 2), latest)
	w.take(t, vote(2, 9, 5), latest)
	w.head(t, 5, 0, 10, 1, 5, 2, 5, 3, 5, 5, 2)
	for _, v := range []api.Vote{vote(0, 9, 3), vote(0, 8, 3), vote(0, 11, 3), vote(1, 10, 2), vote(2, 8, 5)} {
		w.take(t, v, same)
		w.head(t, 5, 0, 10, 1, 5, 2, 5, 3, 5, 5, 2)
	}
	for _, v := range []api.Vote{vote(0, 7, 6), vote(1, 4, 1), vote(2, 5, 5), vote(0, 2, 2)} {
		w.take(t, v, late)
		w.head(t, 5, 0, 10, 1, 5, 2, 5, 3, 5, 5, 2)
	}
	w.take(t, vote(3, 9, 6), none)
	w.take(t, vote(2, 11, 1), double)
	w.head(t, 6, 0, 8, 1, 5, 2, 3, 3, 5, 5, 0)
	for _, v := range []api.Vote{vote(2, 9, 5), vote(2, 5, 1), vote(2, 100, 6), vote(2, 9, 1)} {
		w.take(t, v, out)
		w.head(t, 6, 0, 8, 1, 5, 2, 3, 3, 5, 5, 0)
	}
}

// P14.1, P14.2: the stake of one that votes twice is gone at once, wherever its latest vote is, and for good.
func TestTakeTwice(t *testing.T) {
	for _, x := range []api.Vote{vote(0, 9, 4), vote(0, 8, 6), vote(0, 6, 5)} { // in the latest vote's epoch; in an earlier one
		w := grown(t, 5, 3)
		w.take(t, vote(0, 5, 4), latest)
		w.take(t, vote(0, 9, 3), latest)
		w.take(t, vote(1, 9, 2), latest)
		w.head(t, 6, 0, 8, 1, 5, 3, 5)
		w.take(t, x, double)
		w.head(t, 5, 0, 3, 1, 0, 2, 3, 3, 0, 4, 0, 5, 0, 6, 0)
		for _, slot := range []int{4, 9, 12, 100, maxSlot} {
			w.take(t, vote(0, slot, 3), out)
			w.head(t, 5, 0, 3, 1, 0, 2, 3, 3, 0)
		}
		w.forget(t, 1000, 0)
		w.take(t, vote(0, 2000, 3), out)
		w.add(t, name(7), name(3), 7, api.OK)
		w.head(t, 5, 0, 3, 1, 0, 2, 3, 3, 0)
		w.keep(t, name(3), api.OK)
		w.head(t, 7, 3, 0)
		w.take(t, vote(0, 2000, 3), out)
		w.head(t, 7, 3, 0, 0, 0)
	}
}

// P14.1: a first vote for whichever block, and all that it weighs on: the block, all over it, and no others.
func TestWeight(t *testing.T) {
	over := map[int][]int{0: {0}, 1: {0, 1}, 2: {0, 2}, 3: {0, 1, 3}, 4: {0, 1, 4}, 5: {0, 2, 5}, 6: {0, 1, 3, 6}}
	for target := range 7 {
		w := grown(t, 5, 1)
		w.take(t, api.Vote{Slot: 9, Target: w.at(target)}, latest)
		for n := range 7 {
			want := 0
			if slices.Contains(over[target], n) {
				want = 5
			}
			if got := w.book.Weight(w.at(n)); got != want {
				t.Errorf("a vote for %d: %d weighs %d, want %d", target, n, got, want)
			}
		}
		for _, root := range []api.Root{{}, name(7), name(77), {31: 1}} {
			if got := w.book.Weight(root); got != 0 {
				t.Errorf("%x isn't there, and weighs %d", root, got)
			}
		}
	}
}

// P14.1: a block whose name is all bytes 0 is one as others are: nobody voted for it that didn't vote at all.
func TestBlockOfBytes0(t *testing.T) {
	w := start(t, config(9, 5, 3))
	w.take(t, api.Vote{Slot: 1}, unknown)
	w.add(t, api.Root{}, w.first(), 1, api.OK)
	w.add(t, name(1), w.first(), 1, api.OK)
	w.head(t, 1, 0, 0)
	w.take(t, api.Vote{Slot: 1}, latest)
	if w.book.Head() != (api.Root{}) || w.book.Weight(api.Root{}) != 5 {
		t.Errorf("%x, %d", w.book.Head(), w.book.Weight(api.Root{}))
	}
	w.take(t, vote(1, 1, 1), latest)
	w.take(t, vote(0, 4, 1), latest)
	w.head(t, 1, 0, 8, 1, 8)
	w.keep(t, name(1), api.OK)
	w.add(t, api.Root{}, name(1), 2, api.OK)
	if w.book.Head() != (api.Root{}) || w.book.Weight(api.Root{}) != 0 {
		t.Errorf("%x, %d", w.book.Head(), w.book.Weight(api.Root{}))
	}
}

// P14.1: stakes of every size: none, the least, the greatest that can be, and as much as can be together.
func TestStakes(t *testing.T) {
	w := grown(t, maxStake-1)
	w.take(t, vote(0, 6, 6), latest)
	w.head(t, 6, 0, maxStake-1, 1, maxStake-1, 6, maxStake-1)
	w.take(t, vote(0, 8, 5), latest)
	w.head(t, 5, 0, maxStake-1, 1, 0, 5, maxStake-1)
	w.take(t, vote(0, 12, 5), latest)
	w.take(t, vote(0, 9, 6), double)
	w.head(t, 5, 0, 0, 5, 0)

	w = grown(t, maxStake-4, 0, 1, 2)
	for who := range 4 {
		w.take(t, vote(who, 6, 6), latest)
	}
	w.head(t, 6, 0, maxStake-1, 6, maxStake-1)
	w.take(t, vote(3, 8, 5), latest)
	w.take(t, vote(0, 8, 4), latest)
	w.head(t, 4, 0, maxStake-1, 1, maxStake-3, 4, maxStake-4, 6, 1, 5, 2)
	w.take(t, vote(2, 8, 5), latest)
	w.take(t, vote(0, 9, 6), double)
	w.head(t, 5, 0, 3, 1, 0, 2, 3, 5, 3)
	w.take(t, vote(1, 8, 1), latest)
	w.head(t, 5, 0, 3, 1, 0)
	w.take(t, vote(2, 10, 1), double)
	w.take(t, vote(3, 10, 1), double)
	w.head(t, 5, 0, 0)
	w.take(t, vote(1, 10, 2), double) // it never weighed anything
	w.head(t, 5, 0, 0)

	big := start(t, config(9, slices.Repeat([]int{maxStake/64 - 1}, 64)...))
	big.add(t, name(1), big.first(), 1, api.OK)
	big.add(t, name(2), big.first(), 1, api.OK)
	for who := range 64 {
		big.take(t, vote(who, 1, 1+who%2), latest)
	}
	big.head(t, 2, 0, maxStake-64, 1, maxStake/2-32, 2, maxStake/2-32)
	for who := range 64 {
		big.take(t, vote(who, 4, 1), latest)
	}
	big.head(t, 1, 0, maxStake-64, 1, maxStake-64, 2, 0)
	big.take(t, vote(63, 5, 2), double)
	big.head(t, 1, 0, maxStake-64-(maxStake/64-1))
}

// P14.1: of children that weigh the same the one with the greater name is the head, whichever came first, and it changes with each call that makes them unlike.
func TestHeadOfLikes(t *testing.T) {
	for _, names := range [][2]int{{1, 2}, {2, 1}, {300, 44 + 256*2}, {200, 3}} {
		w := start(t, config(9, 5, 5, 1))
		a, b := name(names[0]), name(names[1])
		if bytes.Compare(a[:], b[:]) > 0 {
			a, b = b, a
		}
		w.add(t, name(names[0]), w.first(), 1, api.OK)
		w.add(t, name(names[1]), w.first(), 1, api.OK)
		at := func(want api.Root) {
			t.Helper()
			if got := w.book.Head(); got != want {
				t.Fatalf("%v: the head is %x", names, got)
			}
		}
		at(b)
		w.take(t, api.Vote{Validator: 0, Slot: 1, Target: a}, latest)
		at(a)
		w.take(t, api.Vote{Validator: 1, Slot: 1, Target: b}, latest)
		at(b)
		w.take(t, api.Vote{Validator: 2, Slot: 1, Target: a}, latest)
		at(a)
		w.take(t, api.Vote{Validator: 2, Slot: 4, Target: w.first()}, latest)
		at(b)
		w.take(t, api.Vote{Validator: 1, Slot: 2, Target: a}, double)
		at(a)
		w.take(t, api.Vote{Validator: 0, Slot: 2, Target: b}, double)
		at(b)
		w.keep(t, w.first(), api.OK)
		at(b)
		w.keep(t, a, api.OK)
		at(a)
	}
}

// voted answers a grown book with a vote for each of 1 to 6, of stakes 1, 2, 4 .., and one of 64 for the first block.
func voted(t *testing.T) *watch {
	t.Helper()
	w := grown(t, 64, 1, 2, 4, 8, 16, 32)
	w.take(t, api.Vote{Slot: 6, Target: w.first()}, latest)
	for n := 1; n <= 6; n++ {
		w.take(t, vote(n, 6, n), latest)
	}
	w.head(t, 6, 0, 127, 1, 45, 2, 18, 3, 36, 4, 8, 5, 16, 6, 32)
	return w
}

// P14.1: by a block that isn't there Keep answers ErrNone, and nothing changes.
func TestKeepOfNone(t *testing.T) {
	w := voted(t)
	x := w.book.Tree()
	for _, root := range []api.Root{{}, name(7), name(77), {31: 255}, name(256)} {
		w.keep(t, root, api.ErrNone)
		w.head(t, 6, 0, 127, 1, 45, 2, 18, 3, 36, 4, 8, 5, 16, 6, 32)
		if w.book.Tree() != x {
			t.Error("another tree")
		}
	}
	w.keep(t, name(5), api.OK)
	for _, root := range []api.Root{w.first(), name(1), name(2), name(6)} {
		w.keep(t, root, api.ErrNone)
		w.head(t, 5, 5, 16)
	}
}

// P14.1: behind Keep only the block, and what stands below it, is left, with the weights that it had; by the first block all is.
func TestKeep(t *testing.T) {
	weights := map[int]int{0: 127, 1: 45, 2: 18, 3: 36, 4: 8, 5: 16, 6: 32}
	for _, c := range []struct {
		root, head int
		left       []int
	}{
		{0, 6, []int{0, 1, 2, 3, 4, 5, 6}}, {1, 6, []int{1, 3, 4, 6}}, {2, 5, []int{2, 5}}, {3, 6, []int{3, 6}}, {4, 4, []int{4}}, {5, 5, []int{5}}, {6, 6, []int{6}},
	} {
		w := voted(t)
		for range 2 {
			w.keep(t, w.at(c.root), api.OK)
			if got := w.book.Tree().Len(); got != len(c.left) || w.book.Head() != w.at(c.head) || w.book.Tree().Room() != 9-got {
				t.Errorf("behind Keep of %d: %d blocks, the head %x", c.root, got, w.book.Head())
			}
			for n, weight := range weights {
				if !slices.Contains(c.left, n) {
					weight = 0
				}
				if got := w.book.Weight(w.at(n)); got != weight {
					t.Errorf("behind Keep of %d: %d weighs %d, want %d", c.root, n, got, weight)
				}
			}
		}
		if w.book.Table().Marks() != 7 {
			t.Errorf("%d first votes", w.book.Table().Marks())
		}
	}
}

// P14.1: the book goes on behind Keep: blocks come where there is room again, in slots behind their parents', and votes for them weigh.
func TestGoOnBehindKeep(t *testing.T) {
	w := voted(t)
	w.add(t, name(7), name(6), 7, api.OK)
	w.add(t, name(8), name(6), 8, api.OK)
	w.add(t, name(9), name(6), 9, api.ErrFull)
	w.keep(t, name(3), api.OK)
	w.head(t, 8, 3, 36, 6, 32)
	for n := 9; n <= 13; n++ {
		w.add(t, name(n), name(n-1), n, api.OK)
	}
	w.add(t, name(14), name(13), 14, api.ErrFull)
	w.add(t, name(14), w.first(), 14, api.ErrParent)
	w.add(t, name(14), name(3), 3, api.ErrParent)
	w.take(t, vote(3, 13, 13), latest)
	w.head(t, 13, 3, 36, 6, 36, 13, 4)
	w.take(t, vote(6, 13, 7), latest)
	w.head(t, 7, 3, 36, 6, 36, 13, 4, 7, 32)
	w.keep(t, name(6), api.OK)
	w.head(t, 7, 6, 36, 13, 4, 7, 32)
}

// P14.1, P14.2: votes whose block is gone weigh nothing; when their validators vote again, or twice, no block loses anything, and later votes weigh.
func TestVotesForWhatIsGone(t *testing.T) {
	w := voted(t)
	w.keep(t, name(3), api.OK)
	w.head(t, 6, 3, 36, 6, 32)
	w.take(t, vote(2, 6, 2), unknown)  // its own latest vote again
	w.take(t, vote(4, 7, 3), double)   // it voted for 4, which is gone
	w.head(t, 6, 3, 36, 6, 32)         // and nothing is taken from any
	w.take(t, vote(4, 12, 3), out)     // for good
	w.take(t, vote(2, 9, 3), latest)   // from 2, which is gone
	w.head(t, 6, 3, 38, 6, 32)         // it weighs
	w.take(t, vote(2, 13, 6), latest)  // and goes on to another
	w.head(t, 6, 3, 38, 6, 34)         //
	w.take(t, vote(0, 3, 3), late)     // the first block's, of an earlier epoch
	w.take(t, vote(0, 7, 3), double)   // and twice
	w.head(t, 6, 3, 38, 6, 34)         //
	w.take(t, vote(5, 100, 3), latest) // from 5
	w.head(t, 6, 3, 54, 6, 34)
	w.keep(t, name(6), api.OK)
	w.head(t, 6, 6, 34)
	w.take(t, vote(5, 101, 6), double) // from 3, which is gone now
	w.head(t, 6, 6, 34, 3, 0)
}

// P14.1: a block of the name of one that is gone, which comes again, weighs at once what latest votes for it make it weigh: of those that count, and no others.
func TestBlockThatComesAgain(t *testing.T) {
	w := grown(t, 64, 1, 2, 4, 8, 16, 32)
	w.take(t, vote(0, 6, 5), latest)
	w.take(t, vote(1, 6, 5), latest)
	w.take(t, vote(2, 6, 5), latest)
	w.take(t, vote(3, 6, 5), latest)
	w.take(t, vote(4, 6, 2), latest)
	w.take(t, vote(5, 6, 6), latest)
	w.take(t, vote(1, 3, 3), late)
	w.take(t, vote(2, 7, 3), double)
	w.head(t, 5, 0, 64+1+4+8+16, 5, 69, 2, 77)
	w.keep(t, name(1), api.OK)
	w.head(t, 6, 1, 16, 5, 0)
	w.take(t, vote(3, 8, 3), latest)
	w.head(t, 6, 1, 20)
	w.add(t, name(5), name(4), 9, api.OK) // elsewhere, and later than its votes' slots
	w.head(t, 5, 1, 85, 4, 65, 5, 65, 3, 20)
	w.add(t, name(2), name(5), 10, api.OK)
	w.head(t, 2, 1, 93, 4, 73, 5, 73, 2, 8)
	w.take(t, vote(0, 11, 1), latest) // now it loses what it has
	w.head(t, 6, 1, 93, 4, 9, 5, 9, 2, 8)
	w.take(t, vote(1, 7, 4), double)
	w.head(t, 6, 1, 92, 4, 8, 5, 8, 2, 8)
	w.add(t, w.first(), name(1), 2, api.OK) // even the name of the first block of all
	w.head(t, 6, 0, 0)
}

// P14.1: a block that comes again, with votes from before, can be the head at once.
func TestHeadThatComesAgain(t *testing.T) {
	w := grown(t, 5, 3)
	w.take(t, vote(0, 6, 4), latest)
	w.take(t, vote(1, 6, 6), latest)
	w.keep(t, name(3), api.OK)
	w.head(t, 6, 3, 3)
	w.add(t, name(4), name(3), 4, api.OK)
	w.head(t, 4, 3, 8, 4, 5, 6, 3)
	w.keep(t, name(6), api.OK)
	w.add(t, name(4), name(6), 7, api.OK)
	w.head(t, 4, 6, 8, 4, 5)
	w.take(t, vote(0, 6, 4), unknown) // its slot is later now; its vote weighs nevertheless
	w.head(t, 4, 6, 8, 4, 5)
}

// P14.1: Forget is the table's, and changes neither weights nor the head, whatever slot it is told.
func TestForget(t *testing.T) {
	for _, c := range [][2]int{{math.MinInt, 14}, {-1, 14}, {0, 14}, {3, 14}, {4, 14}, {7, 14}, {8, 7}, {11, 7}, {12, 0}, {maxSlot, 0}, {math.MaxInt, 0}} {
		w := voted(t)
		for n := range 7 {
			w.take(t, vote(n, 9, 4), latest)
		}
		w.take(t, vote(6, 10, 3), double)
		w.head(t, 4, 0, 95, 4, 95)
		w.forget(t, c[0], c[1])
		w.head(t, 4, 0, 95, 4, 95)
		w.keep(t, name(4), api.OK)
		w.forget(t, c[0], c[1])
		w.head(t, 4, 4, 95)
	}
}

// P14.1: a vote of a forgotten epoch is taken anew: of an earlier one than the latest vote's it is Late, of that one Latest, and the stake goes with it.
func TestVotesOfForgottenEpochs(t *testing.T) {
	w := grown(t, 5, 3)
	w.take(t, vote(0, 6, 3), latest)
	w.take(t, vote(0, 9, 4), latest)
	w.take(t, vote(1, 9, 4), latest)
	w.forget(t, 8, 2)
	w.take(t, vote(0, 7, 5), late)
	w.take(t, vote(0, 7, 6), double)
	w.head(t, 4, 0, 3, 4, 3)
	w.forget(t, 12, 0)
	w.take(t, vote(1, 8, 5), latest)
	w.head(t, 5, 0, 3, 4, 0, 1, 0, 2, 3, 5, 3)
	w.take(t, vote(1, 11, 5), same)
	w.forget(t, 12, 0)
	w.take(t, vote(1, 11, 5), latest)
	w.head(t, 5, 0, 3, 5, 3)
	w.take(t, vote(1, 9, 4), double)
	w.head(t, 5, 0, 0, 5, 0)
}

// P14.1: Tree and Table are the book's own: what was asked for once shows what comes later; behind a Keep the tree that is asked for shows what is left.
func TestTreeAndTable(t *testing.T) {
	w := start(t, config(9, 5, 3))
	x, y := w.book.Tree(), w.book.Table()
	w.add(t, name(1), w.first(), 1, api.OK)
	w.take(t, vote(0, 1, 1), latest)
	if x.Place(name(1)) != 1 || y.Marks() != 1 || w.book.Tree() != x || w.book.Table() != y {
		t.Error("they don't show what came")
	}
	w.keep(t, name(1), api.OK)
	if w.book.Tree().Len() != 1 || w.book.Tree().Place(name(1)) != 0 || w.book.Table() != y {
		t.Error("Keep")
	}
	w.take(t, vote(1, 1, 1), latest)
	w.forget(t, 100, 0)
	if v, ok := y.Vote(1); v != vote(1, 1, 1) || !ok || y.Marks() != 0 {
		t.Errorf("%v", v)
	}
	list := w.book.Tree().Roots()
	list[0] = api.Root{}
	w.same(t)
}

// P14.1: what is handed in isn't changed, and isn't kept: neither the list of validators nor what stands behind its end.
func TestConfigStays(t *testing.T) {
	c := config(9, 5, 3, 7)
	whole := slices.Clone(c.Validators)
	c.Validators = c.Validators[:2]
	g := genesis.Root(c)
	b := votes.New(c)
	if !slices.Equal(c.Validators[:3], whole) {
		t.Fatalf("%v", c.Validators[:3])
	}
	c.Validators[0] = api.Validator{Stake: 100, Key: "other"}
	c.Validators[1].Stake = -9
	b.Add(name(1), g, 1)
	b.Take(vote(0, 1, 1))
	b.Take(vote(1, 1, 1))
	if b.Weight(g) != 8 || b.Take(vote(2, 1, 1)) != none {
		t.Errorf("%d", b.Weight(g))
	}
}

// P14.1: books know nothing of one another.
func TestBooksApart(t *testing.T) {
	c := config(9, 5, 3)
	list := []*watch{start(t, c), start(t, c), start(t, config(9, 1, 2, 3))}
	rnd := rand.New(rand.NewSource(3))
	for range 400 {
		w := list[rnd.Intn(len(list))]
		w.step(t, rnd, 6)
		for _, other := range list {
			other.same(t)
		}
	}
}

// P14.1: rows of calls of all kinds, in every order, answer by the chapters' words, from several states on.
func TestRowsOfCalls(t *testing.T) {
	calls := []func(w *watch) (got, want int){
		adding(7, 1, 4), adding(7, 5, 9), adding(5, 6, 8), adding(2, 3, 6), adding(1, 0, 1),
		taking(0, 6, 3), taking(0, 6, 5), taking(0, 9, 2), taking(1, 9, 7), taking(1, 5, 4), taking(0, 2, 1),
		keeping(1), keeping(3), keeping(77),
		forgetting(8), forgetting(100),
	}
	states := [][]int{nil, {6, 9, 11}, {5, 8, 15, 12}, {7, 4}, {5, 12, 3, 7}}
	for _, state := range states {
		rows(t, calls, state, 3)
	}
}

// rows holds all rows of so many calls behind a state, each by a book of its own; what its calls but the last one answer was held already in shorter rows.
func rows(t *testing.T, calls []func(w *watch) (int, int), row []int, deeper int) {
	t.Helper()
	c := config(7, 5, 3)
	w := &watch{votes.New(c), newModel(c), []api.Root{genesis.Root(c), name(1), name(2), name(3), name(4), name(5), name(6), name(7), name(77)}}
	for _, x := range [][2]int{{1, 0}, {2, 0}, {3, 1}, {5, 2}, {6, 3}} {
		w.model.add(name(x[0]), w.at(x[1]), x[0])
		w.book.Add(name(x[0]), w.at(x[1]), x[0])
	}
	for _, i := range row {
		if got, want := calls[i](w); got != want {
			t.Fatalf("row %v: %d, want %d", row, got, want)
		}
	}
	w.same(t)
	if deeper == 0 {
		return
	}
	for i := range calls {
		rows(t, calls, append(slices.Clone(row), i), deeper-1)
	}
}

// adding answers a call that adds a block.
func adding(root, parent, slot int) func(w *watch) (int, int) {
	return func(w *watch) (int, int) {
		return int(w.book.Add(name(root), w.at(parent), slot)), int(w.model.add(name(root), w.at(parent), slot))
	}
}

// taking answers a call that takes a vote.
func taking(who, slot, target int) func(w *watch) (int, int) {
	return func(w *watch) (int, int) {
		return int(w.book.Take(vote(who, slot, target))), int(w.model.take(vote(who, slot, target)))
	}
}

// keeping answers a call that keeps a block.
func keeping(root int) func(w *watch) (int, int) {
	return func(w *watch) (int, int) { return int(w.book.Keep(name(root))), int(w.model.keep(name(root))) }
}

// forgetting answers a call that forgets.
func forgetting(slot int) func(w *watch) (int, int) {
	return func(w *watch) (int, int) {
		w.book.Forget(slot)
		w.model.forget(slot)
		return 0, 0
	}
}

// step makes one call by chance, of blocks up to a number and slots up to four times that, and holds its answer against the model.
func (w *watch) step(t *testing.T, rnd *rand.Rand, most int) {
	t.Helper()
	pick := func() api.Root { return w.at(rnd.Intn(most + 1)) }
	if b := w.model.blocks; rnd.Intn(3) > 0 {
		pick = func() api.Root { return b[rnd.Intn(len(b))].name }
	}
	switch n := rnd.Intn(40); {
	case n < 12:
		root, parent, slot := name(1+rnd.Intn(most)), pick(), rnd.Intn(4*most)
		if got, want := w.book.Add(root, parent, slot), w.model.add(root, parent, slot); got != want {
			t.Fatalf("Add of %x behind %x in the slot %d: %d, want %d", root, parent, slot, got, want)
		}
	case n < 36:
		v := api.Vote{Validator: rnd.Intn(len(w.model.counts)+2) - 1, Slot: rnd.Intn(4*most + 8), Target: pick()}
		if got, want := w.book.Take(v), w.model.take(v); got != want {
			t.Fatalf("Take of %v: %d, want %d", v, got, want)
		}
	case n < 38:
		slot := rnd.Intn(4 * most)
		w.book.Forget(slot)
		w.model.forget(slot)
	default:
		root := pick()
		if got, want := w.book.Keep(root), w.model.keep(root); got != want {
			t.Fatalf("Keep of %x: %d, want %d", root, got, want)
		}
	}
	w.same(t)
}

// P14.1, P14.2: calls of all kinds, by chance, with few and many validators and blocks.
func TestByChance(t *testing.T) {
	rnd := rand.New(rand.NewSource(14))
	for range 60 {
		stakes := make([]int, 1+rnd.Intn(12))
		for i := range stakes {
			stakes[i] = rnd.Intn(1 << rnd.Intn(58))
		}
		c := config(2+rnd.Intn(12), stakes...)
		c.Epoch = 1 + rnd.Intn(9)
		w := start(t, c)
		most := 3 + rnd.Intn(12)
		for n := range most + 1 {
			w.names = append(w.names, w.at(n))
		}
		for range 150 {
			w.step(t, rnd, most)
		}
	}
}

// P14.2: with stakes each of another power of two, a block's own weight tells whose votes it is: each validator's is in one block's at most, and that of one that voted twice in none, ever.
func TestEachCountsOnce(t *testing.T) {
	rnd := rand.New(rand.NewSource(41))
	for range 25 {
		var stakes []int
		for i := range 8 {
			stakes = append(stakes, 1<<i)
		}
		w := start(t, config(8, stakes...))
		gone := 0
		for range 120 {
			w.step(t, rnd, 8)
			for who := range stakes {
				if !w.book.Table().Counts(who) {
					gone |= 1 << who
				}
			}
			seen := 0
			for _, root := range w.book.Tree().Roots() {
				own := w.own(root)
				if own < 0 || own >= 1<<8 || own&seen != 0 || own&gone != 0 {
					t.Fatalf("%x weighs %b of its own, beside %b; %b voted twice", root, own, seen, gone)
				}
				seen |= own
			}
			if f, _ := w.book.Tree().Node(0); w.book.Weight(f.Root) != seen {
				t.Fatalf("the first block weighs %b, all own weights %b", w.book.Weight(f.Root), seen)
			}
		}
	}
}

// P14.1, P14.2: a book as great as can be: 256 blocks in a row and in a bush, and 64 validators that vote from one end to the other.
func TestGreatest(t *testing.T) {
	for _, bush := range []bool{false, true} {
		c := config(maxNodes, slices.Repeat([]int{1 << 55}, 64)...)
		g, b := genesis.Root(c), votes.New(c)
		parent := g
		for n := 1; n < maxNodes; n++ {
			if e := b.Add(name(n), parent, n); e != api.OK {
				t.Fatalf("%d: %d", n, e)
			}
			if !bush {
				parent = name(n)
			}
		}
		if e := b.Add(name(maxNodes), g, maxSlot); e != api.ErrFull {
			t.Fatalf("%d", e)
		}
		for round := 1; round <= 3; round++ {
			for who := range 64 {
				target := 1 + (who*4+round)%255
				if code := b.Take(vote(who, 300+4*round, target)); code != latest || b.Weight(g) != 1<<55*max(who+1, 64*min(round-1, 1)) {
					t.Fatalf("%d: %d, of %d", who, code, b.Weight(g))
				}
			}
		}
		if bush && b.Weight(name(8)) != 1<<55 || !bush && b.Weight(name(128)) <= 1<<59 {
			t.Errorf("%d, %d", b.Weight(name(8)), b.Weight(name(128)))
		}
		for who := range 64 {
			if code := b.Take(vote(who, 400, 255)); code != latest {
				t.Fatalf("%d", code)
			}
		}
		if b.Head() != name(255) || b.Weight(name(255)) != 1<<61 || b.Weight(g) != 1<<61 {
			t.Errorf("%x, %d", b.Head(), b.Weight(name(255)))
		}
		if e := b.Keep(name(255)); e != api.OK || b.Weight(name(255)) != 1<<61 || b.Tree().Room() != 255 {
			t.Errorf("%d, %d", e, b.Weight(name(255)))
		}
	}
}
