package table_test

import (
	"math"
	"math/rand"
	"slices"
	"testing"

	"toller/api"
	"toller/table"
)

const (
	maxValidators = 64
	maxEpoch      = 32
	maxSlot       = 1 << 30
)

// The codes' numbers, by the chapter.
const (
	latest = 0
	same   = 1
	double = 2
	late   = 3
	out    = 4
	none   = 5
)

// name answers a name, another one for each number; that of 0 is all bytes 0.
func name(n int) api.Root {
	return api.Root{0: byte(n), 30: byte(n >> 8)}
}

// vote answers a validator's vote.
func vote(who, slot, target int) api.Vote {
	return api.Vote{Validator: who, Slot: slot, Target: name(target)}
}

// first is a first vote of a model: whose, of which epoch, for what.
type first struct {
	who, epoch int
	target     api.Root
}

// model is what a table should hold, in rows, by the chapter's words alone.
type model struct {
	slots  int
	counts []bool
	latest []*api.Vote
	firsts []first
}

// newModel answers a model of a table that can be.
func newModel(validators, slots int) *model {
	return &model{slots, slices.Repeat([]bool{true}, validators), make([]*api.Vote, validators), nil}
}

// clone answers another model that holds the same.
func (m *model) clone() *model {
	return &model{m.slots, slices.Clone(m.counts), slices.Clone(m.latest), slices.Clone(m.firsts)}
}

// epoch answers the epoch of a slot that isn't below 0.
func (m *model) epoch(slot int) int {
	return (slot - slot%m.slots) / m.slots
}

// known answers what a validator voted for first in an epoch, and true; false, if it isn't known.
func (m *model) known(who, epoch int) (api.Root, bool) {
	for _, f := range m.firsts {
		if f.who == who && f.epoch == epoch {
			return f.target, true
		}
	}
	return api.Root{}, false
}

// take answers what should become of a vote.
func (m *model) take(v api.Vote) table.Code {
	if v.Validator < 0 || v.Validator >= len(m.counts) || v.Slot < 0 || v.Slot > maxSlot {
		return none
	}
	if !m.counts[v.Validator] {
		return out
	}
	epoch := m.epoch(v.Slot)
	if target, ok := m.known(v.Validator, epoch); ok && target == v.Target {
		return same
	} else if ok {
		m.counts[v.Validator] = false
		return double
	}
	m.firsts = append(m.firsts, first{v.Validator, epoch, v.Target})
	if l := m.latest[v.Validator]; l != nil && m.epoch(l.Slot) > epoch {
		return late
	}
	m.latest[v.Validator] = &v
	return latest
}

// forget lets go of the first votes of epochs below a slot's.
func (m *model) forget(slot int) {
	if slot < 0 {
		return
	}
	m.firsts = slices.DeleteFunc(m.firsts, func(f first) bool { return f.epoch < m.epoch(slot) })
}

// watch is a table, and the model of it.
type watch struct {
	table *table.Table
	model *model
}

// start answers a table, and its model.
func start(t *testing.T, validators, slots int) *watch {
	t.Helper()
	x := table.New(validators, slots)
	if x == nil {
		t.Fatalf("%d validators, epochs of %d slots: no table", validators, slots)
	}
	w := &watch{x, newModel(validators, slots)}
	w.same(t)
	return w
}

// strangers are numbers of no validator, however many there are.
func strangers() []int {
	return []int{-1, -2, -maxValidators, math.MinInt, math.MinInt32, maxValidators, maxValidators + 1, math.MaxInt32, math.MaxInt, 1 << 32, 1 << 62}
}

// same holds what the table answers against its model.
func (w *watch) same(t *testing.T) {
	t.Helper()
	if got := w.table.Marks(); got != len(w.model.firsts) {
		t.Fatalf("%d first votes are known, want %d", got, len(w.model.firsts))
	}
	for who, counts := range w.model.counts {
		var want api.Vote
		if l := w.model.latest[who]; l != nil {
			want = *l
		}
		if got, ok := w.table.Vote(who); got != want || ok != (w.model.latest[who] != nil) {
			t.Fatalf("the latest vote of %d is %v, %v, want %v", who, got, ok, want)
		}
		if got := w.table.Counts(who); got != counts {
			t.Fatalf("whether %d counts: %v", who, got)
		}
	}
	for _, who := range append(strangers(), len(w.model.counts)) {
		if got, ok := w.table.Vote(who); got != (api.Vote{}) || ok || w.table.Counts(who) {
			t.Fatalf("%d of %d: the latest vote is %v, %v; it counts: %v", who, len(w.model.counts), got, ok, w.table.Counts(who))
		}
	}
}

// take holds a vote's code against a number, and all that is answered behind it against the model.
func (w *watch) take(t *testing.T, v api.Vote, want table.Code) {
	t.Helper()
	if m := w.model.take(v); m != want {
		t.Fatalf("the model says %d of %v, the test %d", m, v, want)
	}
	if got := w.table.Take(v); got != want {
		t.Fatalf("Take of %v: %d, want %d", v, got, want)
	}
	w.same(t)
}

// any takes a vote whose code the model alone says.
func (w *watch) any(t *testing.T, v api.Vote) {
	t.Helper()
	want := w.model.take(v)
	if got := w.table.Take(v); got != want {
		t.Fatalf("Take of %v: %d, want %d", v, got, want)
	}
	w.same(t)
}

// forget forgets in both, and holds that so many first votes are known from then on.
func (w *watch) forget(t *testing.T, slot, left int) {
	t.Helper()
	w.model.forget(slot)
	if w.table.Forget(slot); w.table.Marks() != left {
		t.Fatalf("behind Forget of %d: %d first votes are known, want %d", slot, w.table.Marks(), left)
	}
	w.same(t)
}

// P13.1: the chapter's example: two votes of one epoch for unlike targets.
func TestExample(t *testing.T) {
	w := start(t, 1, 4)
	w.take(t, vote(0, 1, 1), latest)
	w.take(t, vote(0, 2, 2), double)
	if w.table.Counts(0) {
		t.Error("it counts")
	}
	if v, ok := w.table.Vote(0); v != vote(0, 1, 1) || !ok {
		t.Errorf("the latest vote is %v, %v", v, ok)
	}
}

// P13.1: the codes have the numbers that the chapter says.
func TestCodes(t *testing.T) {
	got := []table.Code{table.Latest, table.Same, table.Double, table.Late, table.Out, table.None}
	if !slices.Equal(got, []table.Code{0, 1, 2, 3, 4, 5}) {
		t.Errorf("%v", got)
	}
}

// P13.1: a table is of 1 to 64 validators, and epochs of 1 to 32 slots; all validators count, and none voted. Else there is none.
func TestNew(t *testing.T) {
	for validators := -2; validators <= maxValidators+3; validators++ {
		for slots := -2; slots <= maxEpoch+3; slots++ {
			good := validators >= 1 && validators <= 64 && slots >= 1 && slots <= 32
			if x := table.New(validators, slots); (x != nil) != good {
				t.Errorf("%d validators, epochs of %d slots: %v", validators, slots, x)
			}
			if good {
				start(t, validators, slots)
			}
		}
	}
	far := []int{math.MinInt, math.MinInt32, -maxValidators, -1, 0, 1 << 31, 1 << 32, 1<<32 + 1, 1 << 62, math.MaxInt}
	for _, n := range far {
		for _, m := range append(far, 1, 4, 32, 64) {
			if table.New(n, m) != nil || table.New(m, n) != nil {
				t.Errorf("%d, and %d: there is a table", n, m)
			}
		}
	}
}

// P13.1: of a nil table: None, no vote, nobody counts, nothing is known; Forget does nothing.
func TestNil(t *testing.T) {
	var x *table.Table
	for _, n := range append(strangers(), 0, 1, 5, maxSlot) {
		for _, slot := range []int{math.MinInt, -1, 0, 1, maxSlot, maxSlot + 1, math.MaxInt} {
			if c := x.Take(vote(n, slot, 1)); c != none {
				t.Errorf("Take of %d in the slot %d: %d", n, slot, c)
			}
			x.Forget(slot)
		}
		if v, ok := x.Vote(n); v != (api.Vote{}) || ok {
			t.Errorf("Vote of %d: %v, %v", n, v, ok)
		}
		if x.Counts(n) {
			t.Errorf("%d counts", n)
		}
		if x.Marks() != 0 {
			t.Errorf("Marks: %d", x.Marks())
		}
	}
}

// P13.1: votes of no validator are None: below 0, just as many as there are, more; whatever the slot; and nothing changes.
func TestNoValidator(t *testing.T) {
	for _, n := range []int{1, 2, 3, 31, 63, 64} {
		w := start(t, n, 4)
		w.take(t, vote(0, 5, 1), latest)
		for _, who := range append(strangers(), n, n+1) {
			for _, slot := range []int{math.MinInt, -1, 0, 5, maxSlot, maxSlot + 1, math.MaxInt} {
				w.take(t, vote(who, slot, 2), none)
			}
		}
		w.take(t, vote(n-1, 9, 1), latest)
	}
}

// P13.1: votes of slots that can't be are None: below 0, above 2^30; nothing changes, not even of one that would be Same, Double or Out else. The slots 0 and 2^30 can be.
func TestNoSlot(t *testing.T) {
	bad := []int{-1, -2, -4, -5, -maxSlot, math.MinInt32, math.MinInt, maxSlot + 1, maxSlot + 2, maxSlot + 32, 1 << 31, 1 << 32, 1<<32 + 4, 1 << 62, math.MaxInt}
	for _, slots := range []int{1, 3, 4, 32} {
		w := start(t, 4, slots)
		for _, slot := range bad {
			w.take(t, vote(0, slot, 1), none)
		}
		w.take(t, vote(0, 0, 1), latest)
		w.take(t, vote(1, maxSlot, 1), latest)
		w.take(t, vote(2, maxSlot, 1), latest)
		w.take(t, vote(2, maxSlot, 2), double)
		w.take(t, vote(3, maxSlot, 1), latest)
		w.take(t, vote(3, 0, 2), late)
		for _, slot := range bad {
			for who := range 4 {
				w.take(t, vote(who, slot, 1), none)
				w.take(t, vote(who, slot, 2), none)
			}
		}
		w.take(t, vote(0, maxSlot, 2), latest)
		w.take(t, vote(1, 0, 2), late)
	}
}

// P13.1: a vote of which more than one code could be said has the one that the chapter names first.
func TestFirstCodeHolds(t *testing.T) {
	w := start(t, 2, 4)
	w.take(t, vote(0, 9, 1), latest)
	w.take(t, vote(0, 1, 1), late)
	w.take(t, vote(0, 2, 1), same)   // the latest one is of a later epoch, too
	w.take(t, vote(0, 0, 2), double) // as well here
	w.take(t, vote(0, -1, 1), none)  // it doesn't count, too
	w.take(t, vote(0, 1<<30+1, 1), none)
	w.take(t, vote(0, 9, 1), out)   // it would be Same
	w.take(t, vote(0, 9, 2), out)   // Double
	w.take(t, vote(0, 5, 1), out)   // Late
	w.take(t, vote(0, 12, 1), out)  // Latest
	w.take(t, vote(2, -1, 1), none) // neither can be
}

// P13.1: the same target again in an epoch is Same, in whatever slot of it; the latest vote stays, with its slot, and it goes on counting.
func TestSame(t *testing.T) {
	w := start(t, 2, 4)
	w.take(t, vote(0, 6, 7), latest)
	for _, slot := range []int{6, 4, 5, 7, 7, 4, 6} {
		w.take(t, vote(0, slot, 7), same)
		if v, ok := w.table.Vote(0); v != vote(0, 6, 7) || !ok || w.table.Marks() != 1 {
			t.Fatalf("the latest vote is %v, %v; %d", v, ok, w.table.Marks())
		}
	}
	w.take(t, vote(0, 8, 7), latest) // another epoch
	w.take(t, vote(0, 3, 7), late)
	w.take(t, vote(0, 5, 7), same) // its first one, though the latest is later now
}

// P13.1: another target in an epoch is Double: it doesn't count from then on, keeps its latest vote, and is Out whatever it votes, in whatever epoch.
func TestDouble(t *testing.T) {
	w := start(t, 3, 4)
	w.take(t, vote(1, 6, 7), latest)
	w.take(t, vote(1, 9, 7), latest)
	w.take(t, vote(1, 4, 8), double) // in an epoch that isn't the latest vote's
	for _, target := range []int{7, 8, 9, 0} {
		for _, slot := range []int{0, 3, 4, 5, 6, 7, 8, 9, 11, 12, 100, maxSlot} {
			w.take(t, vote(1, slot, target), out)
			if v, ok := w.table.Vote(1); v != vote(1, 9, 7) || !ok || w.table.Counts(1) || w.table.Marks() != 2 {
				t.Fatalf("the latest vote is %v, %v; it counts: %v; %d", v, ok, w.table.Counts(1), w.table.Marks())
			}
		}
	}
	w.forget(t, 1000, 0)
	w.take(t, vote(1, 1004, 7), out)
	w.take(t, vote(0, 6, 8), latest)
	w.take(t, vote(2, 6, 9), latest)
}

// P13.1: the first vote of an earlier epoch than the latest one's is Late: the latest vote stays, and the next of that epoch is Same or Double by it.
func TestLate(t *testing.T) {
	for _, c := range []struct {
		target int
		want   table.Code
	}{{7, double}, {8, same}, {9, double}} {
		w := start(t, 1, 4)
		w.take(t, vote(0, 40, 7), latest)
		w.take(t, vote(0, 3, 8), late)
		if v, ok := w.table.Vote(0); v != vote(0, 40, 7) || !ok || w.table.Marks() != 2 {
			t.Fatalf("the latest vote is %v, %v; %d", v, ok, w.table.Marks())
		}
		w.take(t, vote(0, 39, 9), late) // just ahead of the latest one's epoch
		w.take(t, vote(0, 4, 8), late)  // between both
		w.take(t, vote(0, 0, c.target), c.want)
	}
}

// P13.1: a later epoch's vote is the latest one, for whatever target; one for a target for which it voted in another epoch is no Same.
func TestLatest(t *testing.T) {
	w := start(t, 1, 4)
	for i, slot := range []int{0, 4, 8, 15, 16, 1000, maxSlot - 4, maxSlot} {
		w.take(t, vote(0, slot, i/2), latest)
		if v, ok := w.table.Vote(0); v != vote(0, slot, i/2) || !ok || w.table.Marks() != i+1 {
			t.Fatalf("the latest vote is %v, %v; %d", v, ok, w.table.Marks())
		}
	}
}

// P13.1: the slots of an epoch, from one end to the other, are of it, and those beside it aren't; in epochs of 1 to 32 slots, the first ones and the last.
func TestEnds(t *testing.T) {
	for slots := 1; slots <= maxEpoch; slots++ {
		for _, epoch := range []int{0, 1, 2, 7, maxSlot/slots - 2, maxSlot/slots - 1, maxSlot / slots} {
			low, high := epoch*slots, min(epoch*slots+slots-1, maxSlot)
			for _, from := range []int{low, (low + high) / 2, high} {
				w := start(t, 2, slots)
				w.take(t, vote(0, from, 1), latest)
				for slot := low; slot <= high; slot++ {
					w.take(t, vote(0, slot, 1), same)
				}
				w.beside(t, low, high)
				w.take(t, vote(0, low, 1), same)
				w.take(t, vote(0, high, 2), double)
			}
			w := start(t, 1, slots)
			w.take(t, vote(0, high, 1), latest)
			w.take(t, vote(0, low, 2), double)
		}
	}
}

// beside takes validator 0's votes of the slots just ahead of an epoch, and just behind it, if there are such ones.
func (w *watch) beside(t *testing.T, low, high int) {
	t.Helper()
	if low > 0 {
		w.take(t, vote(0, low-1, 2), late)
	}
	if high < maxSlot {
		w.take(t, vote(0, high+1, 3), latest)
	}
}

// P13.1: epochs of one slot: each slot is of its own.
func TestEpochsOfOneSlot(t *testing.T) {
	w := start(t, 1, 1)
	for slot := range 50 {
		w.take(t, vote(0, slot, slot%3), latest)
	}
	for slot := range 50 {
		w.take(t, vote(0, slot, slot%3), same)
	}
	w.forget(t, 20, 30)
	w.take(t, vote(0, 19, 5), late)
	w.take(t, vote(0, 20, 5), double)
}

// P13.1: targets are the same where all bytes are: one other bit anywhere is another target; the name of bytes 0 is a target as others are.
func TestTargets(t *testing.T) {
	for bit := range 256 {
		for _, root := range []api.Root{{}, name(300), {31: 255}} {
			near := root
			near[bit/8] ^= 1 << (bit % 8)
			w := start(t, 2, 4)
			w.take(t, api.Vote{Validator: 1, Slot: 5, Target: root}, latest)
			w.take(t, api.Vote{Validator: 1, Slot: 6, Target: root}, same)
			w.take(t, api.Vote{Validator: 1, Slot: 6, Target: near}, double)
			w.take(t, api.Vote{Validator: 0, Slot: 6, Target: near}, latest)
		}
	}
}

// P13.1: epochs below the slot's are forgotten, its own isn't, whichever of its slots is told; a slot below 0 lets nothing go, and one above all votes, even above 2^30, all.
func TestForget(t *testing.T) {
	full := func() *watch {
		w := start(t, 3, 4)
		for _, slot := range []int{16, 0, 4, 11, 12} {
			w.any(t, vote(0, slot, 1))
			w.any(t, vote(2, slot, slot))
		}
		w.take(t, vote(2, 13, 5), double)
		return w
	}
	for _, c := range [][2]int{
		{math.MinInt, 10}, {math.MinInt32, 10}, {-maxSlot, 10}, {-17, 10}, {-5, 10}, {-4, 10}, {-3, 10}, {-1, 10},
		{0, 10}, {1, 10}, {3, 10}, {4, 8}, {5, 8}, {7, 8}, {8, 6}, {11, 6}, {12, 4}, {15, 4}, {16, 2}, {19, 2},
		{20, 0}, {21, 0}, {1000, 0}, {maxSlot, 0}, {maxSlot + 1, 0}, {1 << 32, 0}, {1<<32 + 3, 0}, {1 << 62, 0}, {math.MaxInt, 0},
	} {
		w := full()
		w.forget(t, c[0], c[1])
		w.forget(t, c[0], c[1]) // once more: nothing is left to forget
		w.forget(t, -1, c[1])
		w.forget(t, 0, c[1]) // what is forgotten doesn't come back
	}
	w := start(t, 1, 4)
	w.forget(t, 100, 0) // of a table without votes
	w.take(t, vote(0, 3, 1), latest)
	w.take(t, vote(0, 2, 2), double)
}

// P13.1: in epochs of every length, the slot just below an epoch keeps the one ahead of it, and its own first slot doesn't; up to the last slot.
func TestForgetAtEnds(t *testing.T) {
	for slots := 1; slots <= maxEpoch; slots++ {
		for _, epoch := range []int{1, 2, 9, maxSlot / slots} {
			w := start(t, 1, slots)
			w.take(t, vote(0, epoch*slots-1, 1), latest)
			w.take(t, vote(0, epoch*slots, 1), latest)
			w.forget(t, (epoch-1)*slots, 2)
			w.forget(t, epoch*slots-1, 2)
			w.forget(t, epoch*slots, 1)
			w.forget(t, epoch*slots+slots-1, 1)
			w.take(t, vote(0, epoch*slots, 1), same)
			w.forget(t, epoch*slots+slots, 0)
			w.take(t, vote(0, epoch*slots-1, 2), late)
		}
	}
}

// P13.1: what is forgotten changes neither who counts nor a latest vote.
func TestForgetKeeps(t *testing.T) {
	for _, slot := range []int{-1, 0, 4, 8, 12, 100, maxSlot, math.MaxInt} {
		w := start(t, 4, 4)
		w.take(t, vote(0, 5, 1), latest)
		w.take(t, vote(1, 5, 1), latest)
		w.take(t, vote(1, 6, 2), double)
		w.take(t, vote(2, 9, 1), latest)
		w.take(t, vote(2, 1, 3), late)
		w.table.Forget(slot)
		w.model.forget(slot)
		w.same(t)
		for who, want := range []struct {
			v      api.Vote
			counts bool
		}{{vote(0, 5, 1), true}, {vote(1, 5, 1), false}, {vote(2, 9, 1), true}, {api.Vote{}, true}} {
			v, ok := w.table.Vote(who)
			if v != want.v || ok != (who < 3) || w.table.Counts(who) != want.counts {
				t.Errorf("behind Forget of %d: the latest vote of %d is %v, %v; it counts: %v", slot, who, v, ok, w.table.Counts(who))
			}
		}
		w.take(t, vote(1, 5, 1), out)
	}
}

// P13.1: votes of forgotten epochs are first ones again: Late below the latest vote's epoch; Latest in it, even of an earlier slot, for whatever target; and known from then on.
func TestForgotten(t *testing.T) {
	w := start(t, 1, 4)
	w.take(t, vote(0, 7, 1), latest)
	w.take(t, vote(0, 1, 1), late)
	w.forget(t, 8, 0)
	w.take(t, vote(0, 1, 2), late)
	w.take(t, vote(0, 2, 2), same)
	w.take(t, vote(0, 4, 3), latest) // the latest vote's own epoch, and an earlier slot
	w.take(t, vote(0, 7, 3), same)
	if v, ok := w.table.Vote(0); v != vote(0, 4, 3) || !ok {
		t.Errorf("the latest vote is %v, %v", v, ok)
	}
	w.forget(t, 4, 1)
	w.take(t, vote(0, 0, 9), late)
	w.forget(t, 100, 0)
	w.take(t, vote(0, 7, 3), latest) // the same target, and not Same: nothing is known of the epoch
	w.take(t, vote(0, 7, 2), double)
	w.forget(t, 100, 0)
	w.take(t, vote(0, 7, 2), out)
}

// P13.1: Marks counts first votes, each validator's of each epoch, and no others; those of validators that don't count, too; behind every kind of call.
func TestMarks(t *testing.T) {
	w := start(t, 3, 4)
	for i, c := range []struct {
		v    api.Vote
		want table.Code
		left int
	}{
		{vote(0, 5, 1), latest, 1}, {vote(1, 5, 1), latest, 2}, {vote(0, 6, 1), same, 2}, {vote(0, 1, 1), late, 3},
		{vote(0, 2, 1), same, 3}, {vote(0, -1, 1), none, 3}, {vote(3, 5, 1), none, 3}, {vote(0, 3, 2), double, 3},
		{vote(0, 9, 2), out, 3}, {vote(0, 5, 1), out, 3}, {vote(1, 9, 1), latest, 4}, {vote(2, 9, 1), latest, 5},
	} {
		if w.take(t, c.v, c.want); w.table.Marks() != c.left {
			t.Errorf("%d: %d, want %d", i, w.table.Marks(), c.left)
		}
	}
	w.forget(t, 4, 4)
	w.forget(t, 8, 2)
	w.take(t, vote(1, 1, 3), late)
	w.forget(t, 7, 2)
	w.forget(t, 12, 0)
}

// P13.1: as many first votes are known as there were epochs, of all validators; nothing is dropped by itself.
func TestMany(t *testing.T) {
	x := table.New(maxValidators, 2)
	for epoch := range 200 {
		for who := range maxValidators {
			if c := x.Take(vote(who, 2*epoch+who%2, who+epoch)); c != latest {
				t.Fatalf("%d in the epoch %d: %d", who, epoch, c)
			}
		}
	}
	if x.Marks() != 200*maxValidators {
		t.Fatalf("%d first votes are known", x.Marks())
	}
	for epoch := range 200 {
		for who := range maxValidators {
			if c := x.Take(vote(who, 2*epoch+1, who+epoch)); c != same {
				t.Fatalf("%d in the epoch %d: %d", who, epoch, c)
			}
		}
	}
	if x.Forget(200); x.Marks() != 100*maxValidators {
		t.Fatalf("%d first votes are left", x.Marks())
	}
}

// deal answers votes of some validators, of slots and for targets that often are the same.
func deal(r *rand.Rand, validators, n, most int) []api.Vote {
	list := make([]api.Vote, n)
	for i := range list {
		list[i] = vote(r.Intn(validators), r.Intn(most), r.Intn(3))
	}
	return list
}

// P13.1: one validator's votes change nothing of another's: each has the same codes, and the same latest vote, as if it had been alone.
func TestApart(t *testing.T) {
	r := rand.New(rand.NewSource(1))
	for range 300 {
		n := 2 + r.Intn(5)
		x, alone := table.New(n, 4), make([]*table.Table, n)
		for who := range alone {
			alone[who] = table.New(n, 4)
		}
		for _, v := range deal(r, n, 60, 60) {
			if got, want := x.Take(v), alone[v.Validator].Take(v); got != want {
				t.Fatalf("Take of %v: %d, and %d alone", v, got, want)
			}
			if v.Target == (api.Root{}) {
				x.Forget(v.Slot / 2)
				for _, y := range alone {
					y.Forget(v.Slot / 2)
				}
			}
		}
		marks := 0
		for who, y := range alone {
			got, ok := x.Vote(who)
			want, has := y.Vote(who)
			if got != want || ok != has || x.Counts(who) != y.Counts(who) {
				t.Fatalf("%d: %v, %v; alone %v, %v", who, got, ok, want, has)
			}
			marks += y.Marks()
		}
		if x.Marks() != marks {
			t.Fatalf("%d first votes are known, alone %d", x.Marks(), marks)
		}
	}
}

// P13.1: two tables know nothing of one another, and asking changes nothing.
func TestTwoTables(t *testing.T) {
	r := rand.New(rand.NewSource(2))
	w, v := start(t, 3, 4), start(t, 3, 4)
	for range 300 {
		list := deal(r, 3, 2, 400)
		w.any(t, list[0])
		v.same(t)
		v.any(t, list[1])
		w.same(t)
		w.forget(t, list[1].Slot/4, len(left(w, list[1].Slot/4)))
		v.same(t)
	}
}

// left answers the first votes that a model would know behind a Forget.
func left(w *watch, slot int) []first {
	m := w.model.clone()
	m.forget(slot)
	return m.firsts
}

// P13.1: rows of calls in every order, each of six out of all kinds of calls, against the model.
func TestEveryOrder(t *testing.T) {
	calls := []api.Vote{vote(0, 1, 1), vote(0, 0, 2), vote(0, 2, 1), vote(0, 3, 2), vote(0, 5, 1), vote(1, 3, 1)}
	forgets := []int{2, 4} // told by the numbers behind those of the votes
	var walk func(row []int)
	walk = func(row []int) {
		if len(row) < 6 {
			for i := range len(calls) + len(forgets) {
				walk(append(row, i))
			}
			return
		}
		x, m := table.New(2, 2), newModel(2, 2)
		for _, i := range row {
			if i >= len(calls) {
				x.Forget(forgets[i-len(calls)])
				m.forget(forgets[i-len(calls)])
			} else if got, want := x.Take(calls[i]), m.take(calls[i]); got != want {
				t.Fatalf("%v: Take of %v: %d, want %d", row, calls[i], got, want)
			}
		}
		(&watch{x, m}).quick(t, row)
	}
	walk(nil)
}

// quick holds what the table says of each validator against the model, and how much is known.
func (w *watch) quick(t *testing.T, row []int) {
	t.Helper()
	for who, counts := range w.model.counts {
		v, ok := w.table.Vote(who)
		if l := w.model.latest[who]; ok != (l != nil) || ok && v != *l || !ok && v != (api.Vote{}) || w.table.Counts(who) != counts {
			t.Fatalf("%v: the latest vote of %d is %v, %v; it counts: %v", row, who, v, ok, w.table.Counts(who))
		}
	}
	if w.table.Marks() != len(w.model.firsts) {
		t.Fatalf("%v: %d first votes are known", row, w.table.Marks())
	}
}

// odd answers a slot: most are small, some at the ends of what can be, and beyond.
func odd(r *rand.Rand, most int) int {
	ends := []int{0, -1, maxSlot, maxSlot - 1, maxSlot + 1, math.MinInt, math.MaxInt, 1 << 31, 1 << 32}
	if n := r.Intn(80); n < len(ends) {
		return ends[n]
	}
	return r.Intn(most)
}

// P13.1: mixed calls in long rows, of tables of every size, against the model.
func TestMixed(t *testing.T) {
	r := rand.New(rand.NewSource(3))
	for range 300 {
		w := start(t, 1+r.Intn(maxValidators), 1+r.Intn(maxEpoch))
		some, most := 1+r.Intn(len(w.model.counts)), 1+r.Intn(12*w.model.slots)
		for range 150 {
			slot := odd(r, most)
			if r.Intn(12) == 0 {
				slot -= r.Intn(2) * most / 2
				w.forget(t, slot, len(left(w, slot)))
				continue
			}
			who := r.Intn(some)
			if r.Intn(30) == 0 {
				who = append(strangers(), len(w.model.counts))[r.Intn(len(strangers())+1)]
			}
			w.any(t, vote(who, slot, r.Intn(1+r.Intn(3))))
		}
	}
}

// outcome is what P13.2 promises of a validator: whether it counts, and, if it does, its latest vote's epoch and target.
type outcome struct {
	counts, voted bool
	epoch         int
	target        api.Root
}

// outcomes answers what a table says of validators, by P13.2.
func outcomes(x *table.Table, validators, slots int) []outcome {
	list := make([]outcome, validators)
	for who := range list {
		if v, ok := x.Vote(who); x.Counts(who) {
			list[who] = outcome{true, ok, v.Slot / slots, v.Target}
		}
	}
	return list
}

// wanted answers what votes of one epoch should lead to, whatever their order, from what stood ahead of them:
// who voted for unlike targets in it doesn't count, and for whom else did is its latest vote, unless that is of a later epoch.
func wanted(m *model, votes []api.Vote) []outcome {
	list := make([]outcome, len(m.counts))
	for who, counts := range m.counts {
		var o outcome
		if o.counts = counts; m.latest[who] != nil {
			o.voted, o.epoch, o.target = true, m.epoch(m.latest[who].Slot), m.latest[who].Target
		}
		for i, v := range votes {
			if v.Validator != who {
				continue
			}
			target, ok := m.known(who, m.epoch(v.Slot))
			if ok && target != v.Target || slices.ContainsFunc(votes[:i], func(u api.Vote) bool { return u.Validator == who && u.Target != v.Target }) {
				o.counts = false
			}
			if epoch := m.epoch(v.Slot); !ok && (!o.voted || o.epoch <= epoch) {
				o.voted, o.epoch, o.target = true, epoch, v.Target
			}
		}
		if o.counts {
			list[who] = o
		}
	}
	return list
}

// orders hands each order of some votes to a function.
func orders(votes []api.Vote, do func(list []api.Vote)) {
	list := slices.Clone(votes)
	var swap func(i int)
	swap = func(i int) {
		if i == len(list) {
			do(list)
			return
		}
		for j := i; j < len(list); j++ {
			list[i], list[j] = list[j], list[i]
			swap(i + 1)
			list[i], list[j] = list[j], list[i]
		}
	}
	swap(0)
}

// settle holds what a row of votes of one epoch leads to, behind others that came ahead, against what P13.2 wants.
func settle(t *testing.T, validators, slots int, ahead, votes []api.Vote, forget int, want []outcome) {
	t.Helper()
	x := table.New(validators, slots)
	for _, v := range ahead {
		x.Take(v)
	}
	x.Forget(forget)
	for _, v := range votes {
		x.Take(v)
	}
	if got := outcomes(x, validators, slots); !slices.Equal(got, want) {
		t.Fatalf("behind %v, Forget of %d, and %v: %v, want %v", ahead, forget, votes, got, want)
	}
}

// P13.2: votes of one epoch in all orders: of a validator that votes once, one that votes twice for the same, one for unlike targets, one that doesn't vote, and one that didn't count.
func TestAllOrders(t *testing.T) {
	for _, ahead := range [][]api.Vote{
		nil,
		{vote(3, 1, 1), vote(0, 1, 5), vote(1, 1, 4), vote(2, 1, 5)},                               // an earlier epoch
		{vote(3, 9, 1), vote(0, 9, 5), vote(1, 9, 4), vote(2, 9, 5)},                               // a later one
		{vote(3, 5, 1), vote(0, 5, 5), vote(1, 5, 4), vote(2, 5, 5)},                               // the same
		{vote(0, 5, 1), vote(0, 9, 2), vote(1, 5, 2), vote(1, 9, 7), vote(2, 1, 1), vote(2, 9, 9)}, // the same, and others
		{vote(0, 1, 1), vote(0, 2, 2), vote(1, 7, 2), vote(2, 7, 1), vote(2, 4, 2), vote(3, 8, 3)}, // some don't count
	} {
		votes := []api.Vote{vote(0, 4, 1), vote(1, 5, 2), vote(1, 6, 2), vote(2, 7, 1), vote(2, 4, 2), vote(4, 6, 0)}
		m := newModel(6, 4)
		for _, v := range ahead {
			m.take(v)
		}
		want := wanted(m, votes)
		orders(votes, func(list []api.Vote) { settle(t, 6, 4, ahead, list, -1, want) })
	}
}

// P13.2: the outcome in words, of the simplest case.
func TestOrderPlaysNoPart(t *testing.T) {
	votes := []api.Vote{vote(0, 4, 1), vote(1, 5, 2), vote(1, 7, 2), vote(2, 6, 1), vote(2, 6, 2)}
	want := []outcome{{true, true, 1, name(1)}, {true, true, 1, name(2)}, {}, {counts: true}}
	orders(votes, func(list []api.Vote) { settle(t, 4, 4, nil, list, -1, want) })
}

// P13.2: votes of one epoch in many orders, of many validators, in epochs of every length, behind all that may have been ahead of them, what was forgotten by then, too.
func TestShuffled(t *testing.T) {
	r := rand.New(rand.NewSource(4))
	for range 1500 {
		n, slots := 1+r.Intn(8), 1+r.Intn(maxEpoch)
		ahead, forget := deal(r, n, r.Intn(20), 5*slots), r.Intn(6*slots)-slots
		m := newModel(n, slots)
		for _, v := range ahead {
			m.take(v)
		}
		m.forget(forget)
		epoch, targets := r.Intn(5), 1+r.Intn(3)
		votes := make([]api.Vote, r.Intn(25))
		for i := range votes {
			votes[i] = vote(r.Intn(n), epoch*slots+r.Intn(slots), r.Intn(targets))
		}
		want := wanted(m, votes)
		for range 6 {
			settle(t, n, slots, ahead, votes, forget, want)
			r.Shuffle(len(votes), func(i, j int) { votes[i], votes[j] = votes[j], votes[i] })
		}
	}
}

// P13.2: the last epoch is one as others are, though it may have fewer slots.
func TestLastEpoch(t *testing.T) {
	for _, slots := range []int{1, 3, 7, 32} {
		votes := []api.Vote{vote(0, maxSlot, 1), vote(0, maxSlot-maxSlot%slots, 1), vote(1, maxSlot, 1), vote(1, maxSlot-maxSlot%slots, 2)}
		want := []outcome{{true, true, maxSlot / slots, name(1)}, {}}
		orders(votes, func(list []api.Vote) { settle(t, 2, slots, nil, list, -1, want) })
	}
}
