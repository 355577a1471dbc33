package clock_test

import (
	"math"
	"math/rand"
	"slices"
	"testing"

	"toller/clock"
)

const (
	maxSlot   = 1 << 30
	maxWindow = 64
)

// at answers a clock that has ticked so often.
func at(t *testing.T, window, ticks int) *clock.Clock {
	t.Helper()
	c := clock.New(window)
	if c == nil {
		t.Fatalf("window %d: no clock", window)
	}
	for i := range ticks {
		if !c.Tick() {
			t.Fatalf("window %d: no tick behind the slot %d", window, i)
		}
	}
	return c
}

// state is what a clock should answer, by the chapter's words.
type state struct {
	now    int
	window int
}

// first is the slot less the window, counted back one by one.
func (s state) first() int {
	slot := s.now
	for range s.window {
		if slot > 0 {
			slot--
		}
	}
	return slot
}

// asked are the slots of which votes are asked for, one by one, the lesser one first.
func (s state) asked() []int {
	var list []int
	for slot := s.first(); slot <= s.now; slot++ {
		list = append(list, slot)
	}
	if s.now < maxSlot {
		list = append(list, s.now+1)
	}
	return list
}

// extremes are numbers at the edges of ints, and such as would be others if only their lower bytes were taken.
func extremes() []int {
	return []int{
		math.MinInt, math.MinInt + 1, -1 << 62, -1<<32 - 1, -1 << 32, -1<<32 + 1, math.MinInt32, -maxSlot - 1, -maxSlot, -65, -64, -2, -1, 0, 1, 2,
		maxSlot - 1, maxSlot, maxSlot + 1, maxSlot + 2, math.MaxInt32, 1 << 31, math.MaxUint32, 1 << 32, 1<<32 + 1, 1<<32 + maxSlot, 1 << 62, math.MaxInt - 1, math.MaxInt,
	}
}

// around are slots near the window's ends and the clock's slot, and the extremes.
func (s state) around() []int {
	list := extremes()
	for d := -3; d <= 3; d++ {
		list = append(list, s.now+d, s.first()+d)
	}
	return list
}

// same holds what a clock tells of itself against what it should.
func (s state) same(t *testing.T, c *clock.Clock) {
	t.Helper()
	if c.Now() != s.now || c.First() != s.first() {
		t.Fatalf("window %d, slot %d: answers the slot %d, and the first %d, want %d", s.window, s.now, c.Now(), c.First(), s.first())
	}
}

// of holds what a clock answers of these slots, with these finals, against what it should.
func (s state) of(t *testing.T, c *clock.Clock, slots, finals []int) {
	t.Helper()
	asked := s.asked()
	for _, slot := range slots {
		if got, want := c.Vote(slot), slices.Contains(asked, slot); got != want {
			t.Fatalf("window %d, slot %d: Vote(%d) is %v", s.window, s.now, slot, got)
		}
		if got, want := c.Ripe(slot), s.now > slot; got != want {
			t.Fatalf("window %d, slot %d: Ripe(%d) is %v", s.window, s.now, slot, got)
		}
		for _, final := range finals {
			if got, want := c.Block(final, slot), !(slot <= final || slot > s.now); got != want {
				t.Fatalf("window %d, slot %d: Block(%d, %d) is %v", s.window, s.now, final, slot, got)
			}
		}
	}
}

// all holds all that a clock answers against what it should; it asks everything twice, since no answer moves a clock.
func (s state) all(t *testing.T, c *clock.Clock) {
	t.Helper()
	list := s.around()
	for range 2 {
		s.same(t, c)
		s.of(t, c, list, list)
		s.same(t, c)
	}
}

// P9.1: the chapter's example: at the slot 0 votes of the slots 0 and 1 are asked for, no block is.
func TestExample(t *testing.T) {
	for _, window := range []int{1, 2, 10, 64} {
		c := clock.New(window)
		for slot, want := range map[int]bool{-2: false, -1: false, 0: true, 1: true, 2: false, 3: false} {
			if c.Vote(slot) != want {
				t.Errorf("window %d: Vote(%d) is %v", window, slot, !want)
			}
			if c.Block(0, slot) {
				t.Errorf("window %d: a block of the slot %d is asked for", window, slot)
			}
		}
	}
}

// P9.1: a clock of a window of 3, written out tick by tick.
func TestWrittenOut(t *testing.T) {
	c := clock.New(3)
	for _, x := range []struct {
		now, first   int
		votes        []int
		blocks       []int // with 1 for the final block's slot
		ripe, unripe int
	}{
		{0, 0, []int{0, 1}, nil, -1, 0},
		{1, 0, []int{0, 1, 2}, nil, 0, 1},
		{2, 0, []int{0, 1, 2, 3}, []int{2}, 1, 2},
		{3, 0, []int{0, 1, 2, 3, 4}, []int{2, 3}, 2, 3},
		{4, 1, []int{1, 2, 3, 4, 5}, []int{2, 3, 4}, 3, 4},
		{5, 2, []int{2, 3, 4, 5, 6}, []int{2, 3, 4, 5}, 4, 5},
		{6, 3, []int{3, 4, 5, 6, 7}, []int{2, 3, 4, 5, 6}, 5, 6},
	} {
		if c.Now() != x.now || c.First() != x.first || !c.Ripe(x.ripe) || c.Ripe(x.unripe) {
			t.Errorf("slot %d: answers the slot %d, the first %d, ripe %v, %v", x.now, c.Now(), c.First(), c.Ripe(x.ripe), c.Ripe(x.unripe))
		}
		for slot := -10; slot <= 20; slot++ {
			if c.Vote(slot) != slices.Contains(x.votes, slot) {
				t.Errorf("slot %d: Vote(%d) is %v", x.now, slot, c.Vote(slot))
			}
			if c.Block(1, slot) != slices.Contains(x.blocks, slot) {
				t.Errorf("slot %d: Block(1, %d) is %v", x.now, slot, c.Block(1, slot))
			}
		}
		if !c.Tick() {
			t.Errorf("slot %d: no tick", x.now)
		}
	}
}

// P9.1: every window that can be, tick by tick until behind it, held against the chapter's words.
func TestByDefinition(t *testing.T) {
	for window := 1; window <= maxWindow; window++ {
		c := clock.New(window)
		for now := range 2*window + 5 {
			s := state{now, window}
			s.same(t, c)
			var slots []int
			for slot := -3; slot <= now+4; slot++ {
				slots = append(slots, slot)
			}
			s.of(t, c, slots, []int{-2, -1, 0, now / 2, now - 1, now, now + 1})
			if !c.Tick() {
				t.Fatalf("window %d, slot %d: no tick", window, now)
			}
		}
	}
}

// P9.1: all calls at ordinary slots, with slots and finals at their edges and at those of ints.
func TestOrdinarySlots(t *testing.T) {
	for _, window := range []int{1, 2, 3, 7, 10, 32, 63, 64} {
		for _, now := range []int{0, 1, 2, 3, 6, 7, 8, 31, 32, 33, 62, 63, 64, 65, 66, 100, 127, 128, 255, 256, 257, 1000, 65535, 65536, 65537} {
			state{now, window}.all(t, at(t, window, now))
		}
	}
}

// P9.1: a window below 1 is taken as 1, one above MaxWindow as that.
func TestWindows(t *testing.T) {
	for _, x := range []struct{ window, taken int }{
		{0, 1}, {1, 1}, {2, 2}, {3, 3}, {10, 10}, {62, 62}, {63, 63}, {64, 64},
		{65, 64}, {66, 64}, {100, 64}, {255, 64}, {256, 64}, {257, 64}, {maxSlot - 1, 64}, {maxSlot, 64}, {maxSlot + 1, 64},
		{math.MaxInt32, 64}, {1 << 31, 64}, {1 << 32, 64}, {1<<32 + 5, 64}, {1 << 62, 64}, {math.MaxInt - 1, 64}, {math.MaxInt, 64},
		{-1, 1}, {-2, 1}, {-10, 1}, {-63, 1}, {-64, 1}, {-65, 1}, {-maxSlot, 1}, {math.MinInt32, 1}, {-1 << 32, 1}, {-1<<32 + 5, 1}, {math.MinInt + 1, 1}, {math.MinInt, 1},
	} {
		for _, now := range []int{0, 1, 2, x.taken - 1, x.taken, x.taken + 1, 63, 64, 65, 66, 200} {
			state{now, x.taken}.all(t, at(t, x.window, now))
		}
	}
}

// P9.1: First is 0 up to the window, and at it; behind it the slot less the window.
func TestFirst(t *testing.T) {
	for window := 1; window <= maxWindow; window++ {
		c := clock.New(window)
		for now := range window + 1 {
			if c.Now() != now || c.First() != 0 {
				t.Fatalf("window %d, slot %d: the first is %d", window, c.Now(), c.First())
			}
			c.Tick()
		}
		for want := 1; want <= 200; want++ {
			if c.First() != want {
				t.Fatalf("window %d, slot %d: the first is %d, want %d", window, c.Now(), c.First(), want)
			}
			c.Tick()
		}
	}
}

// P9.1: of a final block's slot below 0, of its slot itself, one above it, of Now, one above it, and with final above Now.
func TestBlock(t *testing.T) {
	c := at(t, 5, 10)
	for _, x := range []struct {
		final, slot int
		want        bool
	}{
		{0, -1, false}, {0, 0, false}, {0, 1, true}, {0, 9, true}, {0, 10, true}, {0, 11, false}, {0, 12, false},
		{4, 3, false}, {4, 4, false}, {4, 5, true}, {4, 10, true}, {4, 11, false},
		{8, 8, false}, {8, 9, true}, {8, 10, true}, {8, 11, false},
		{9, 9, false}, {9, 10, true}, {9, 11, false},
		{10, 9, false}, {10, 10, false}, {10, 11, false},
		{11, 10, false}, {11, 11, false}, {11, 12, false},
		{12, 10, false}, {12, 11, false}, {12, 12, false}, {12, 13, false},
		{-1, -2, false}, {-1, -1, false}, {-1, 0, true}, {-1, 1, true}, {-1, 10, true}, {-1, 11, false},
		{-7, -8, false}, {-7, -7, false}, {-7, -6, true}, {-7, -1, true}, {-7, 0, true}, {-7, 10, true}, {-7, 11, false},
		{math.MinInt, math.MinInt, false}, {math.MinInt, math.MinInt + 1, true}, {math.MinInt, -1, true}, {math.MinInt, 0, true}, {math.MinInt, 10, true},
		{math.MinInt, 11, false}, {math.MinInt, math.MaxInt, false}, {-1, math.MinInt, false}, {0, math.MinInt, false}, {9, math.MinInt, false}, {10, math.MinInt, false},
		{0, math.MaxInt, false}, {9, math.MaxInt, false}, {math.MaxInt - 1, math.MaxInt, false}, {math.MaxInt, math.MaxInt, false},
		{math.MaxInt, math.MinInt, false}, {math.MaxInt, 0, false}, {math.MaxInt, 10, false}, {math.MaxInt, 11, false},
	} {
		for range 2 {
			if got := c.Block(x.final, x.slot); got != x.want {
				t.Errorf("Block(%d, %d) is %v", x.final, x.slot, got)
			}
		}
	}
}

// P9.1: blocks older than the window are asked for still, as long as they are above final.
func TestBlockBehindTheWindow(t *testing.T) {
	c := at(t, 1, 300)
	for slot := 1; slot <= 300; slot++ {
		if !c.Block(0, slot) || !c.Block(slot-1, slot) || c.Block(slot, slot) {
			t.Errorf("slot %d: %v, %v, %v", slot, c.Block(0, slot), c.Block(slot-1, slot), c.Block(slot, slot))
		}
	}
}

// P9.1: votes of First - 1, First, Now, Now + 1 and Now + 2.
func TestVote(t *testing.T) {
	for _, x := range []struct{ window, now, first int }{
		{1, 1, 0}, {1, 2, 1}, {1, 10, 9}, {4, 2, 0}, {4, 4, 0}, {4, 5, 1}, {4, 10, 6}, {64, 63, 0}, {64, 64, 0}, {64, 65, 1}, {64, 1000, 936},
	} {
		c := at(t, x.window, x.now)
		for slot, want := range map[int]bool{
			x.first - 2: false, x.first - 1: false, x.first: true, x.now - 1: true, x.now: true, x.now + 1: true, x.now + 2: false, x.now + 3: false,
			math.MinInt: false, -1: false, maxSlot: false, math.MaxInt: false,
		} {
			for range 2 {
				if got := c.Vote(slot); got != want {
					t.Errorf("window %d, slot %d: Vote(%d) is %v", x.window, x.now, slot, got)
				}
			}
		}
	}
}

// P9.1: slots of Now - 1, Now, Now + 1 and below 0; the window plays no part.
func TestRipe(t *testing.T) {
	for _, window := range []int{math.MinInt, 1, 4, 64, math.MaxInt} {
		for _, now := range []int{0, 1, 2, 5, 64, 65, 300} {
			c := at(t, window, now)
			for _, slot := range []int{now - 1, now - 2, -1, -2, -64, -maxSlot, math.MinInt + 1, math.MinInt} {
				if !c.Ripe(slot) {
					t.Errorf("window %d, slot %d: %d isn't ripe", window, now, slot)
				}
			}
			for _, slot := range []int{now, now + 1, now + 2, maxSlot, maxSlot + 1, math.MaxInt - 1, math.MaxInt} {
				if c.Ripe(slot) {
					t.Errorf("window %d, slot %d: %d is ripe", window, now, slot)
				}
			}
		}
	}
}

// P9.1: each tick is one slot, and true.
func TestTick(t *testing.T) {
	c := clock.New(8)
	for now := range 5000 {
		if c.Now() != now || c.Now() != now {
			t.Fatalf("at the slot %d, want %d", c.Now(), now)
		}
		if !c.Tick() {
			t.Fatalf("no tick behind the slot %d", now)
		}
	}
}

// P9.1: the last slots: a tick at MaxSlot - 1, and none at MaxSlot, where the slot stays, and its votes are asked for, but none above it.
func TestLastSlots(t *testing.T) {
	if testing.Short() {
		t.Skip("2^30 ticks for each window")
	}
	for _, window := range []int{1, 5, 64} {
		c := clock.New(window)
		for range maxSlot - 70 {
			c.Tick()
		}
		for now := maxSlot - 70; now < maxSlot; now++ {
			state{now, window}.all(t, c)
			if !c.Vote(now+1) || c.Vote(now+2) {
				t.Fatalf("slot %d: Vote(%d) is %v, Vote(%d) is %v", now, now+1, c.Vote(now+1), now+2, c.Vote(now+2))
			}
			if !c.Tick() {
				t.Fatalf("no tick behind the slot %d", now)
			}
		}
		for range 3 {
			state{maxSlot, window}.all(t, c)
			if !c.Vote(maxSlot) || c.Vote(maxSlot+1) || c.Vote(maxSlot+2) || c.Ripe(maxSlot) || !c.Ripe(maxSlot-1) || !c.Block(0, maxSlot) || c.Block(0, maxSlot+1) {
				t.Fatalf("window %d: another answer at MaxSlot", window)
			}
			if c.Tick() {
				t.Fatalf("window %d: a tick behind MaxSlot, to the slot %d", window, c.Now())
			}
		}
	}
}

// P9.1: the calls in all orders, each twice, between ticks: none but Tick moves the clock.
func TestEveryOrder(t *testing.T) {
	const window = 4
	asks := []func(state, *clock.Clock) bool{
		func(s state, c *clock.Clock) bool { return c.Now() == s.now },
		func(s state, c *clock.Clock) bool { return c.First() == s.first() },
		func(s state, c *clock.Clock) bool {
			return c.Block(s.now-1, s.now) && !c.Block(s.now, s.now) && !c.Block(0, s.now+1)
		},
		func(s state, c *clock.Clock) bool {
			return c.Vote(s.first()) && !c.Vote(s.first()-1) && c.Vote(s.now+1) && !c.Vote(s.now+2)
		},
		func(s state, c *clock.Clock) bool { return c.Ripe(s.now-1) && !c.Ripe(s.now) },
	}
	c, now := clock.New(window), 0
	var order func(done []int)
	order = func(done []int) {
		if len(done) == len(asks) {
			for _, i := range done {
				for range 2 {
					if !asks[i](state{now, window}, c) {
						t.Fatalf("slot %d, in the order %v: call %d", now, done, i)
					}
				}
			}
			if !c.Tick() {
				t.Fatalf("no tick behind the slot %d", now)
			}
			now++
			return
		}
		for i := range asks {
			if !slices.Contains(done, i) {
				order(append(slices.Clone(done), i))
			}
		}
	}
	order(nil)
	state{120, window}.all(t, c)
}

// P9.1: calls as they come, ticks among them, of several clocks.
func TestMixed(t *testing.T) {
	r := rand.New(rand.NewSource(9))
	for range 50 {
		s := state{window: 1 + r.Intn(maxWindow)}
		c := clock.New(s.window)
		for range 1000 {
			slot, final := s.now+r.Intn(140)-70, s.now+r.Intn(140)-70
			switch r.Intn(6) {
			case 0:
				if !c.Tick() {
					t.Fatalf("window %d: no tick behind the slot %d", s.window, s.now)
				}
				s.now++
			case 1:
				s.same(t, c)
			default:
				s.of(t, c, []int{slot}, []int{final})
			}
		}
	}
}

// Rule 4: two clocks know nothing of one another.
func TestSideBySide(t *testing.T) {
	a, b, again := clock.New(3), clock.New(64), clock.New(3)
	if a == b || a == again || b == again {
		t.Fatal("New answers a clock that was there already")
	}
	for now := range 100 {
		state{now, 3}.all(t, a)
		state{now / 3, 64}.all(t, b)
		state{0, 3}.all(t, again)
		a.Tick()
		if now%3 == 2 {
			b.Tick()
		}
		clock.New(7).Tick()
	}
}

// P9.1: a nil clock answers 0 and false in every call, whatever it is asked.
func TestNil(t *testing.T) {
	var c *clock.Clock
	for range 2 {
		if c.Now() != 0 || c.First() != 0 || c.Tick() {
			t.Error("a nil clock has a slot, or ticks")
		}
		for _, slot := range append(extremes(), 3, 63, 64, 65) {
			if c.Vote(slot) || c.Ripe(slot) {
				t.Errorf("slot %d: Vote is %v, Ripe is %v", slot, c.Vote(slot), c.Ripe(slot))
			}
			for _, final := range extremes() {
				if c.Block(final, slot) {
					t.Errorf("Block(%d, %d) is true", final, slot)
				}
			}
		}
	}
}

// P9.2: each slot's vote, from when it is asked for until it no longer is: one tick later it is ripe, or asked for still, and once ripe it stays so.
func TestLifeOfAVote(t *testing.T) {
	for _, window := range []int{math.MinInt, -1, 0, 1, 2, 3, 4, 10, 63, 64, 65, math.MaxInt} {
		for slot := range 150 {
			lifeOf(t, window, slot)
		}
	}
}

// lifeOf goes with the vote of one slot from the slot 0 until behind the last tick at which it is asked for.
func lifeOf(t *testing.T, window, slot int) {
	t.Helper()
	from, until := max(slot-1, 0), slot+min(max(window, 1), maxWindow)
	c := clock.New(window)
	wasAsked, wasRipe := false, false
	for now := range until + 5 {
		asked, ripe := c.Vote(slot), c.Ripe(slot)
		if wasAsked && !ripe && !asked {
			t.Fatalf("window %d: the vote of the slot %d is neither ripe nor asked for at %d", window, slot, now)
		}
		if wasRipe && !ripe {
			t.Fatalf("window %d: the vote of the slot %d isn't ripe any more at %d", window, slot, now)
		}
		if want := now >= from && now <= until; asked != want {
			t.Fatalf("window %d: whether the vote of the slot %d is asked for at %d: %v", window, slot, now, asked)
		}
		wasAsked, wasRipe = asked, ripe
		c.Tick()
	}
	if !wasRipe {
		t.Fatalf("window %d: the vote of the slot %d is never ripe", window, slot)
	}
}

// P9.2: what is asked for at a tick, whatever the slot, is ripe or asked for at the next; it is ripe at the second at the latest.
func TestNextTick(t *testing.T) {
	for window := 1; window <= maxWindow; window++ {
		c := clock.New(window)
		for now := range 200 {
			var asked []int
			for slot := -2; slot <= now+3; slot++ {
				if c.Vote(slot) {
					asked = append(asked, slot)
				}
			}
			if len(asked) == 0 || !slices.Contains(asked, now) {
				t.Fatalf("window %d, slot %d: votes of %v are asked for", window, now, asked)
			}
			c.Tick()
			for _, slot := range asked {
				if ripe := slot <= now; c.Ripe(slot) != ripe || !ripe && !c.Vote(slot) {
					t.Fatalf("window %d: the vote of the slot %d was asked for at %d; one tick later Ripe is %v, Vote is %v", window, slot, now, c.Ripe(slot), c.Vote(slot))
				}
			}
		}
	}
}
