package genesis_test

import (
	"crypto/sha256"
	"encoding/binary"
	"encoding/hex"
	"math"
	"math/big"
	"reflect"
	"slices"
	"strings"
	"testing"

	"toller/api"
	"toller/genesis"
)

// field is one of a configuration's numbers: where it stands, and the most that it may be.
type field struct {
	name string
	most int
	of   func(c *api.Config) *int
}

// fields are a configuration's numbers, in the order of its bytes.
func fields() []field {
	return []field{
		{"Epoch", 32, func(c *api.Config) *int { return &c.Epoch }},
		{"Committee", 16, func(c *api.Config) *int { return &c.Committee }},
		{"Nodes", 256, func(c *api.Config) *int { return &c.Nodes }},
		{"Orphans", 64, func(c *api.Config) *int { return &c.Orphans }},
		{"Early", 64, func(c *api.Config) *int { return &c.Early }},
		{"Quota", 64, func(c *api.Config) *int { return &c.Quota }},
		{"Peers", 16, func(c *api.Config) *int { return &c.Peers }},
		{"Bytes", 256, func(c *api.Config) *int { return &c.Bytes }},
		{"Window", 64, func(c *api.Config) *int { return &c.Window }},
		{"Ban", 1 << 20, func(c *api.Config) *int { return &c.Ban }},
		{"Decay", 1 << 20, func(c *api.Config) *int { return &c.Decay }},
	}
}

// some are n validators that can be, no two the same.
func some(n int) []api.Validator {
	var out []api.Validator
	for i := range n {
		out = append(out, api.Validator{Stake: i * 1000, Key: strings.Repeat(string([]byte{byte(i)}), i%32+1)})
	}
	return out
}

// ordinary is a configuration that can be, no two of whose numbers are the same.
func ordinary() api.Config {
	return api.Config{
		Validators: some(20), Epoch: 8, Committee: 7, Nodes: 200, Orphans: 30, Early: 31, Quota: 9,
		Peers: 12, Bytes: 180, Window: 40, Ban: 100000, Decay: 300,
	}
}

// least and greatest are the configurations of which nothing can be less, or more.
func least() api.Config {
	return api.Config{
		Validators: []api.Validator{{Stake: 0, Key: "\x00"}}, Epoch: 1, Committee: 1, Nodes: 1, Orphans: 1, Early: 1, Quota: 1,
		Peers: 1, Bytes: 1, Window: 1, Ban: 1, Decay: 1,
	}
}

func greatest() api.Config {
	list := make([]api.Validator, 64)
	for i := range list {
		list[i] = api.Validator{Stake: 1<<56 - 1, Key: strings.Repeat("\xff", 32)}
	}
	list[63].Stake += 63
	return api.Config{
		Validators: list, Epoch: 32, Committee: 16, Nodes: 256, Orphans: 64, Early: 64, Quota: 64,
		Peers: 16, Bytes: 256, Window: 64, Ban: 1 << 20, Decay: 1 << 20,
	}
}

// clone is the same configuration in other memory.
func clone(c api.Config) api.Config {
	c.Validators = slices.Clone(c.Validators)
	return c
}

// validatorCanBe, totalOf and canBe are the chapter's words, with sums of any size.
func validatorCanBe(v api.Validator) bool {
	return 0 <= v.Stake && v.Stake <= 1<<62-1 && 1 <= len(v.Key) && len(v.Key) <= 32
}

func totalOf(list []api.Validator) (int, bool) {
	sum := new(big.Int)
	for _, v := range list {
		if !validatorCanBe(v) {
			return 0, false
		}
		sum.Add(sum, big.NewInt(int64(v.Stake)))
	}
	if sum.Cmp(big.NewInt(1<<62)) >= 0 {
		return 0, false
	}
	return int(sum.Int64()), true
}

func canBe(c api.Config) bool {
	for _, f := range fields() {
		if n := *f.of(&c); n < 1 || n > f.most {
			return false
		}
	}
	_, ok := totalOf(c.Validators)
	return ok && 1 <= len(c.Validators) && len(c.Validators) <= 64 && c.Committee <= len(c.Validators)
}

// bytesOf is a configuration's bytes by the chapter's words.
func bytesOf(c api.Config) string {
	var b []byte
	for _, f := range fields() {
		b = binary.LittleEndian.AppendUint32(b, uint32(*f.of(&c)))
	}
	b = binary.LittleEndian.AppendUint32(b, uint32(len(c.Validators)))
	for _, v := range c.Validators {
		b = binary.LittleEndian.AppendUint64(b, uint64(v.Stake))
		b = append(b, byte(len(v.Key)))
		b = append(b, v.Key...)
	}
	return string(b)
}

// read is the configuration of which these are the bytes.
func read(t *testing.T, s string) api.Config {
	t.Helper()
	var c api.Config
	b := []byte(s)
	take := func(n int) []byte {
		if n > len(b) {
			t.Fatalf("%d bytes are asked for, %d are left of %q", n, len(b), s)
		}
		next := b[:n]
		b = b[n:]
		return next
	}
	for _, f := range fields() {
		*f.of(&c) = int(binary.LittleEndian.Uint32(take(4)))
	}
	for range binary.LittleEndian.Uint32(take(4)) {
		stake := int(binary.LittleEndian.Uint64(take(8)))
		c.Validators = append(c.Validators, api.Validator{Stake: stake, Key: string(take(int(take(1)[0])))})
	}
	if len(b) != 0 {
		t.Fatalf("%d bytes too many in %q", len(b), s)
	}
	return c
}

// rows turns a number to others that don't follow any beat, the same in every run.
type rows uint64

func (r *rows) below(n int) int {
	*r = *r*6364136223846793005 + 1442695040888963407
	return int(uint64(*r) >> 33 % uint64(n))
}

// wantTotal holds Total against what is asked for.
func wantTotal(t *testing.T, name string, list []api.Validator, want int, wantOK bool) {
	t.Helper()
	if got, ok := genesis.Total(list...); got != want || ok != wantOK {
		t.Errorf("%s: %d, %v, want %d, %v", name, got, ok, want, wantOK)
	}
}

// P5.1: Total of none, of one at its edges, and of several.
func TestTotal(t *testing.T) {
	wantTotal(t, "nil", nil, 0, true)
	wantTotal(t, "empty", []api.Validator{}, 0, true)
	if n, ok := genesis.Total(); n != 0 || !ok {
		t.Errorf("none: %d, %v", n, ok)
	}
	for _, stake := range []int{0, 1, 255, 256, 1 << 31, 1<<32 - 1, 1 << 32, 1 << 61, 1<<62 - 2, 1<<62 - 1} {
		wantTotal(t, "one", []api.Validator{{Stake: stake, Key: "a"}}, stake, true)
	}
	for _, stake := range []int{-1, -2, -1 << 62, math.MinInt, math.MinInt + 1, 1 << 62, 1<<62 + 1, math.MaxInt - 1, math.MaxInt} {
		wantTotal(t, "one that can't be", []api.Validator{{Stake: stake, Key: "a"}}, 0, false)
	}
	wantTotal(t, "three", []api.Validator{{Stake: 5, Key: "a"}, {Stake: 0, Key: "b"}, {Stake: 37, Key: "a"}}, 42, true)
	wantTotal(t, "no stakes", []api.Validator{{Stake: 0, Key: "a"}, {Stake: 0, Key: "b"}}, 0, true)
}

// P5.1: stakes that can be each, but not together, also such that their sum would go round to one that could be.
func TestTotalOfGreatStakes(t *testing.T) {
	const top = 1<<62 - 1
	for _, c := range []struct {
		name   string
		stakes []int
		want   int
		ok     bool
	}{
		{"one below", []int{1<<61 - 1, 1 << 61}, top, true},
		{"one below, turned", []int{1 << 61, 1<<61 - 1}, top, true},
		{"at it", []int{1 << 61, 1 << 61}, 0, false},
		{"one above", []int{1 << 61, 1<<61 + 1}, 0, false},
		{"top and nothing", []int{top, 0}, top, true},
		{"nothing and top", []int{0, top}, top, true},
		{"nothing, top and nothing", []int{0, top, 0}, top, true},
		{"top and one", []int{top, 1}, 0, false},
		{"one and top", []int{1, top}, 0, false},
		{"top, nothing and one", []int{top, 0, 1}, 0, false},
		{"top but one, and one", []int{top - 1, 1}, top, true},
		{"top but one, and two", []int{top - 1, 1, 1}, 0, false},
		{"two tops", []int{top, top}, 0, false},
		{"three tops, beyond the greatest int", []int{top, top, top}, 0, false},
		{"four tops, round to -4", []int{top, top, top, top}, 0, false},
		{"five tops, round to top - 4", []int{top, top, top, top, top}, 0, false},
		{"round to 0", []int{top, top, top, top, 4}, 0, false},
		{"round to 7", []int{top, top, top, top, 11}, 0, false},
		{"eight halves, round to 0", slices.Repeat([]int{1 << 61}, 8), 0, false},
		{"a quarter each", slices.Repeat([]int{1 << 60}, 4), 0, false},
		{"a quarter each, less one", []int{1 << 60, 1 << 60, 1 << 60, 1<<60 - 1}, top, true},
		{"sixty-four", slices.Repeat([]int{1<<56 - 1}, 64), 1<<62 - 64, true},
		{"sixty-four, at it", slices.Repeat([]int{1 << 56}, 64), 0, false},
		{"less by one below 0", []int{1 << 61, 1 << 61, -1}, 0, false},
		{"one below 0 ahead", []int{-1, top}, 0, false},
		{"one below 0 behind", []int{top, -1}, 0, false},
		{"least and greatest int", []int{math.MinInt, math.MaxInt}, 0, false},
		{"least int twice", []int{math.MinInt, math.MinInt}, 0, false},
		{"nothing and MaxStake", []int{0, 1 << 62}, 0, false},
		{"one and the greatest int", []int{1, math.MaxInt}, 0, false},
	} {
		var list []api.Validator
		for _, stake := range c.stakes {
			list = append(list, api.Validator{Stake: stake, Key: "key"})
		}
		wantTotal(t, c.name, list, c.want, c.ok)
		if len(list) <= 64 {
			conf := ordinary()
			conf.Validators, conf.Committee = list, 1
			if got := genesis.Good(conf); got != c.ok {
				t.Errorf("%s: Good %v, want %v", c.name, got, c.ok)
			}
		}
	}
}

// P5.1: one validator that can't be, at every place among those that can.
func TestOneThatCannotBe(t *testing.T) {
	for i, bad := range []api.Validator{
		{}, {Stake: 5}, {Stake: -1, Key: "a"}, {Stake: 1 << 62, Key: "a"}, {Stake: math.MaxInt, Key: "a"}, {Stake: math.MinInt, Key: "a"},
		{Stake: 5, Key: strings.Repeat("a", 33)}, {Stake: 5, Key: strings.Repeat("a", 257)}, {Stake: -1}, {Stake: -1, Key: strings.Repeat("\x00", 33)},
	} {
		for at := range 6 {
			list := slices.Insert(some(5), at, bad)
			wantTotal(t, "can't be", list, 0, false)
			c := ordinary()
			c.Validators, c.Committee = list, 1
			if genesis.Good(c) {
				t.Errorf("%d at %d: it can be", i, at)
			}
		}
	}
}

// P5.1: keys of all lengths around their edges, of all kinds of bytes.
func TestKeys(t *testing.T) {
	for n := range 300 {
		for _, b := range []string{"\x00", "a", "\xff", "\x80"} {
			v := api.Validator{Stake: 7, Key: strings.Repeat(b, n)}
			want := n >= 1 && n <= 32
			if got, ok := genesis.Total(v); ok != want || ok && got != 7 || !ok && got != 0 {
				t.Errorf("a key of %d bytes %q: %d, %v", n, b, got, ok)
			}
			c := least()
			c.Validators[0] = v
			if got := genesis.Good(c); got != want {
				t.Errorf("a key of %d bytes %q: Good %v", n, b, got)
			}
		}
	}
	// Runes play no part: it is bytes that are counted.
	wide := "é"
	for n, want := range map[int]bool{16: true, 17: false} {
		c := least()
		c.Validators[0].Key = strings.Repeat(wide, n)
		if got := genesis.Good(c); got != want {
			t.Errorf("a key of %d bytes: Good %v", 2*n, got)
		}
	}
}

// P5.1: Total tells nothing of how many validators there may be.
func TestTotalOfMany(t *testing.T) {
	for _, n := range []int{63, 64, 65, 1000} {
		wantTotal(t, "many", slices.Repeat([]api.Validator{{Stake: 3, Key: "a"}}, n), 3*n, true)
	}
}

// P5.1: ordinary configurations, the least and the greatest one.
func TestGood(t *testing.T) {
	for i, c := range []api.Config{ordinary(), least(), greatest()} {
		if !genesis.Good(c) {
			t.Errorf("%d can't be", i)
		}
	}
	if genesis.Good(api.Config{}) {
		t.Error("the empty configuration can be")
	}
}

// P5.1: each number at its edges, with all others as they were, and one that can't be beside it.
func TestEachNumber(t *testing.T) {
	for _, f := range fields() {
		for _, base := range []func() api.Config{ordinary, greatest} {
			for n := -3; n <= 300; n++ {
				c := base()
				*f.of(&c) = n
				if got, want := genesis.Good(c), n >= 1 && n <= f.most; got != want {
					t.Errorf("%s %d: %v", f.name, n, got)
				}
			}
			for _, n := range []int{f.most - 1, f.most, f.most + 1, 1 << 20, 1<<20 + 1, 1 << 31, 1 << 32, 1<<32 + 1, 1<<32 + f.most, -1 << 32, math.MinInt, math.MinInt + 1, math.MaxInt - 1, math.MaxInt} {
				c := base()
				*f.of(&c) = n
				if got, want := genesis.Good(c), n >= 1 && n <= f.most; got != want {
					t.Errorf("%s %d: %v", f.name, n, got)
				}
			}
		}
		for _, g := range fields() {
			for _, n := range []int{0, g.most + 1} {
				c := ordinary()
				*f.of(&c), *g.of(&c) = 0, n
				if genesis.Good(c) {
					t.Errorf("%s 0, %s %d: it can be", f.name, g.name, n)
				}
			}
		}
	}
}

// P5.1: no validators, one, as many as may be, and more.
func TestHowManyValidators(t *testing.T) {
	for _, n := range []int{0, 1, 2, 16, 63, 64, 65, 128, 320, 1000} {
		c := least()
		c.Validators = some(n)
		if got, want := genesis.Good(c), n >= 1 && n <= 64; got != want {
			t.Errorf("%d validators: %v", n, got)
		}
	}
	c := least()
	c.Validators = nil
	if genesis.Good(c) {
		t.Error("nil validators: it can be")
	}
	c.Validators, c.Committee = []api.Validator{}, 0
	if genesis.Good(c) {
		t.Error("no validators, and no committee: it can be")
	}
}

// P5.1: every committee with every number of validators.
func TestCommittee(t *testing.T) {
	for n := range 67 {
		for size := -1; size <= 67; size++ {
			c := ordinary()
			c.Validators, c.Committee = some(n), size
			if got, want := genesis.Good(c), n >= 1 && n <= 64 && size >= 1 && size <= 16 && size <= n; got != want {
				t.Errorf("%d validators, %d in a committee: %v", n, size, got)
			}
		}
	}
}

// P5.1: configurations of numbers, stakes and keys around their edges, held against the chapter's words.
func TestGoodByDefinition(t *testing.T) {
	var r rows
	both := map[bool]int{}
	for range 20000 {
		c := ordinary()
		for _, f := range fields() {
			edges := []int{1, 1, 1, 2, f.most / 2, f.most / 2, f.most - 1, f.most, f.most, f.most, f.most + 1}
			if r.below(8) == 0 {
				edges = append(edges, 0, -1, math.MinInt, math.MaxInt)
			}
			if r.below(3) != 0 {
				edges = edges[:10]
			}
			*f.of(&c) = edges[r.below(len(edges))]
		}
		c.Validators = nil
		for range []int{1, 2, 15, 16, 17, 30, 63, 64, 64, 64, 0, 65}[r.below(11+r.below(2))] {
			stake := []int{0, 1, 5, 1 << 40, 1 << 56, 1<<56 - 1, 1 << 60}[r.below(6+r.below(2)*r.below(2))]
			c.Validators = append(c.Validators, api.Validator{Stake: stake, Key: strings.Repeat("k", 1+r.below(32))})
		}
		want := canBe(c)
		both[want]++
		if got := genesis.Good(c); got != want {
			t.Fatalf("%#v: %v, want %v", c, got, want)
		}
		total, wantOK := totalOf(c.Validators)
		wantTotal(t, "by definition", c.Validators, total, wantOK)
		if !want {
			continue
		}
		if got := genesis.Bytes(c); got != bytesOf(c) || !reflect.DeepEqual(read(t, got), c) {
			t.Fatalf("%#v: %q", c, got)
		}
	}
	if both[true] < 500 || both[false] < 500 {
		t.Errorf("too few of one kind: %v", both)
	}
}

// P5.1: the bytes, written out one by one.
func TestBytes(t *testing.T) {
	c := api.Config{
		Validators: []api.Validator{{Stake: 0x0123456789abcdef, Key: "\x00\xff"}, {Stake: 0, Key: "key"}, {Stake: 258, Key: "\x01"}},
		Epoch:      5, Committee: 3, Nodes: 256, Orphans: 6, Early: 7, Quota: 8, Peers: 9, Bytes: 255, Window: 10, Ban: 1 << 20, Decay: 0x012345,
	}
	want := "\x05\x00\x00\x00" + "\x03\x00\x00\x00" + "\x00\x01\x00\x00" + "\x06\x00\x00\x00" + "\x07\x00\x00\x00" + "\x08\x00\x00\x00" +
		"\x09\x00\x00\x00" + "\xff\x00\x00\x00" + "\x0a\x00\x00\x00" + "\x00\x00\x10\x00" + "\x45\x23\x01\x00" + "\x03\x00\x00\x00" +
		"\xef\xcd\xab\x89\x67\x45\x23\x01" + "\x02" + "\x00\xff" +
		"\x00\x00\x00\x00\x00\x00\x00\x00" + "\x03" + "key" +
		"\x02\x01\x00\x00\x00\x00\x00\x00" + "\x01" + "\x01"
	if !genesis.Good(c) {
		t.Fatal("it can't be")
	}
	if got := genesis.Bytes(c); got != want {
		t.Errorf("%q, want %q", got, want)
	}
	want = strings.Repeat("\x01\x00\x00\x00", 12) + strings.Repeat("\x00", 8) + "\x01\x00"
	if got := genesis.Bytes(least()); got != want {
		t.Errorf("the least one: %q, want %q", got, want)
	}
	got := genesis.Bytes(greatest())
	if want := bytesOf(greatest()); got != want || len(got) != 48+64*41 {
		t.Errorf("the greatest one: %q, want %q", got, want)
	}
	top := least()
	top.Validators[0] = api.Validator{Stake: 1<<62 - 1, Key: strings.Repeat("\x00", 32)}
	want = strings.Repeat("\x01\x00\x00\x00", 12) + "\xff\xff\xff\xff\xff\xff\xff\x3f" + "\x20" + strings.Repeat("\x00", 32)
	if got := genesis.Bytes(top); got != want {
		t.Errorf("the greatest stake: %q, want %q", got, want)
	}
}

// P5.1: each number stands in its place alone, at all that it may be.
func TestBytesOfEachNumber(t *testing.T) {
	for at, f := range fields() {
		for n := 1; n <= f.most; n += 1 + n/300*97 {
			c := greatest()
			*f.of(&c) = n
			got := genesis.Bytes(c)
			if got != bytesOf(c) || binary.LittleEndian.Uint32([]byte(got[4*at:])) != uint32(n) {
				t.Errorf("%s %d: %q", f.name, n, got[:48])
			}
		}
	}
	for n := 1; n <= 64; n++ {
		c := least()
		c.Validators = some(n)
		if got := genesis.Bytes(c); got != bytesOf(c) || int(got[44]) != n {
			t.Errorf("%d validators: %q", n, got)
		}
	}
}

// P5.1: the first block's name, written out, and held against the library.
func TestRoot(t *testing.T) {
	root := genesis.Root(least())
	if got, want := hex.EncodeToString(root[:]), "e1b1cf00caf3b093d83c83b89dd5ad5bbab8a6303449584c0e3401bb77bd21bc"; got != want {
		t.Errorf("the least one: %s, want %s", got, want)
	}
	for i, c := range []api.Config{ordinary(), least(), greatest()} {
		if got, want := genesis.Root(c), api.Root(sha256.Sum256([]byte("toller"+bytesOf(c)))); got != want {
			t.Errorf("%d: %x, want %x", i, got, want)
		}
		if genesis.Root(c) != genesis.Root(clone(c)) {
			t.Errorf("%d: the same one has another name", i)
		}
	}
}

// P5.1: the chapter's example.
func TestExample(t *testing.T) {
	c := ordinary()
	c.Epoch = 4
	if got := genesis.Epoch(c, 7); got != 1 {
		t.Errorf("the slot 7 is of the epoch %d", got)
	}
}

// P5.1: the slots around all epochs' ends, and great ones.
func TestEpoch(t *testing.T) {
	for size := 1; size <= 32; size++ {
		c := ordinary()
		c.Epoch = size
		slot := 0
		for want := range 40 {
			for range size {
				if got := genesis.Epoch(c, slot); got != want {
					t.Errorf("Epoch %d: the slot %d is of %d, want %d", size, slot, got, want)
				}
				slot++
			}
		}
		for _, top := range []int{1 << 20, 1 << 30, 1 << 31, 1 << 32, 1 << 53, 1 << 62, math.MaxInt - 64} {
			for slot := top - 33; slot <= top+33; slot++ {
				want := new(big.Int).Quo(big.NewInt(int64(slot)), big.NewInt(int64(size)))
				if got := genesis.Epoch(c, slot); int64(got) != want.Int64() {
					t.Errorf("Epoch %d: the slot %d is of %d, want %v", size, slot, got, want)
				}
			}
		}
		begin := math.MaxInt - math.MaxInt%size
		last := genesis.Epoch(c, math.MaxInt)
		if last*size != begin || genesis.Epoch(c, begin) != last || genesis.Epoch(c, begin-1) != last-1 {
			t.Errorf("Epoch %d: the last epoch is %d, and doesn't begin at %d", size, last, begin)
		}
	}
}

// P5.1: nothing but Epoch plays a part in a slot's epoch.
func TestEpochAlone(t *testing.T) {
	for _, f := range fields()[1:] {
		c := ordinary()
		*f.of(&c)++
		if got := genesis.Epoch(c, 100); got != 12 {
			t.Errorf("%s plays a part: %d", f.name, got)
		}
	}
}

// unlike are configurations that can be, no two of which are the same, by how they differ from an ordinary one.
func unlike() map[string]api.Config {
	out := map[string]api.Config{"ordinary": ordinary(), "least": least(), "greatest": greatest()}
	add := func(name string, change func(c *api.Config)) {
		c := ordinary()
		change(&c)
		out[name] = c
	}
	for _, f := range fields() {
		add(f.name+" one less", func(c *api.Config) { *f.of(c)-- })
		add(f.name+" one more", func(c *api.Config) { *f.of(c)++ })
		add(f.name+" 1", func(c *api.Config) { *f.of(c) = 1 })
		add(f.name+" most", func(c *api.Config) { *f.of(c) = f.most })
	}
	add("Ban one byte up", func(c *api.Config) { c.Ban = 100000 + 256 })
	add("Ban two bytes up", func(c *api.Config) { c.Ban = 100000 + 65536 })
	for i := range 20 {
		name := string(rune('a' + i))
		for bit := range 61 {
			add("stake "+name+" bit "+string(rune('A'+bit)), func(c *api.Config) { c.Validators[i].Stake ^= 1 << bit })
		}
		add("key "+name+" first byte", func(c *api.Config) { c.Validators[i].Key = "\xf0" + c.Validators[i].Key[1:] })
		add("key "+name+" last byte", func(c *api.Config) { c.Validators[i].Key = c.Validators[i].Key[:i] + "\xf1" })
		add("key "+name+" one more", func(c *api.Config) { c.Validators[i].Key += "\x00" })
		add("key "+name+" ahead", func(c *api.Config) { c.Validators[i].Key = "\xff" + c.Validators[i].Key })
		add("without "+name, func(c *api.Config) { c.Validators = slices.Delete(c.Validators, i, i+1) })
		add("twice "+name, func(c *api.Config) { c.Validators = append(c.Validators, c.Validators[i]) })
		for j := range i {
			add("turned "+name+string(rune('a'+j)), func(c *api.Config) {
				c.Validators[i], c.Validators[j] = c.Validators[j], c.Validators[i]
			})
			add("stakes turned "+name+string(rune('a'+j)), func(c *api.Config) {
				c.Validators[i].Stake, c.Validators[j].Stake = c.Validators[j].Stake, c.Validators[i].Stake
			})
		}
	}
	add("turned round", func(c *api.Config) { slices.Reverse(c.Validators) })
	for _, f := range fields() {
		for _, g := range fields() {
			if f.name != g.name {
				out["turned "+f.name+g.name] = turnedNumbers(f, g)
			}
		}
	}
	return out
}

// turnedNumbers is a configuration whose numbers are all 5, but for 4 at f, and 3 at g.
func turnedNumbers(f, g field) api.Config {
	c := ordinary()
	for _, other := range fields() {
		*other.of(&c) = 5
	}
	*f.of(&c), *g.of(&c) = 4, 3
	return c
}

// P5.2: of unlike configurations no two have the same bytes, nor the same name.
func TestUnlike(t *testing.T) {
	byBytes, byName := map[string]string{}, map[api.Root]string{}
	all := unlike()
	if len(all) < 1000 {
		t.Fatalf("%d configurations", len(all))
	}
	for name, c := range all {
		if !genesis.Good(c) {
			t.Fatalf("%s can't be", name)
		}
		b, root := genesis.Bytes(c), genesis.Root(c)
		if other, ok := byBytes[b]; ok {
			t.Errorf("%s and %s have the same bytes", name, other)
		}
		if other, ok := byName[root]; ok {
			t.Errorf("%s and %s have the same name", name, other)
		}
		byBytes[b], byName[root] = name, name
	}
}

// P5.2: from the bytes the configuration is told again, so that no other one has them.
func TestReadAgain(t *testing.T) {
	for name, c := range unlike() {
		if got := read(t, genesis.Bytes(c)); !reflect.DeepEqual(got, c) {
			t.Errorf("%s: %#v, want %#v", name, got, c)
		}
	}
}

// P5.2: the same configurations have the same bytes, whatever memory they stand in, and whatever was asked ahead.
func TestSame(t *testing.T) {
	for name, c := range unlike() {
		other := clone(c)
		other.Validators = append(make([]api.Validator, 0, len(c.Validators)+9), c.Validators...)
		for i := range other.Validators {
			other.Validators[i].Key = strings.Clone(other.Validators[i].Key)
		}
		want := genesis.Bytes(c)
		genesis.Bytes(greatest())
		if genesis.Bytes(other) != want || genesis.Bytes(c) != want || genesis.Root(other) != genesis.Root(c) {
			t.Errorf("%s: the same one has other bytes", name)
		}
	}
}

// P5.2: where one key ends, and the next validator begins, counts, though stakes and keys are the same bytes in all.
func TestWhereKeysEnd(t *testing.T) {
	row := "aaaaaa\x01" + strings.Repeat("\x02\x03", 20)
	byBytes := map[string]int{}
	for cut := 1; cut <= 32; cut++ {
		if len(row)-cut-8 < 1 || len(row)-cut-8 > 32 {
			continue
		}
		c := least()
		c.Validators = []api.Validator{
			{Stake: 9, Key: row[:cut]},
			{Stake: int(binary.LittleEndian.Uint64([]byte(row[cut:]))), Key: row[cut+8:]},
		}
		if !genesis.Good(c) {
			continue
		}
		b := genesis.Bytes(c)
		if other, ok := byBytes[b]; ok {
			t.Errorf("cut at %d and at %d: the same bytes", cut, other)
		}
		byBytes[b] = cut
	}
	if len(byBytes) < 10 {
		t.Errorf("only %d cuts can be", len(byBytes))
	}
}

// P5.2: a key that looks like the next validator is none.
func TestKeyLikeAValidator(t *testing.T) {
	one := least()
	one.Validators = []api.Validator{{Stake: 1, Key: "a\x02\x00\x00\x00\x00\x00\x00\x00\x01b"}}
	two := least()
	two.Validators = []api.Validator{{Stake: 1, Key: "a"}, {Stake: 2, Key: "b"}}
	if !genesis.Good(one) || !genesis.Good(two) || genesis.Bytes(one) == genesis.Bytes(two) || genesis.Root(one) == genesis.Root(two) {
		t.Error("one validator, and two, have the same bytes")
	}
	left, right := least(), least()
	left.Validators = []api.Validator{{Stake: 1, Key: "ab"}, {Stake: 1, Key: "c"}}
	right.Validators = []api.Validator{{Stake: 1, Key: "a"}, {Stake: 1, Key: "bc"}}
	if genesis.Bytes(left) == genesis.Bytes(right) {
		t.Error("a byte of one key, and of the next, are the same")
	}
}

// P5.1: what is handed in is left as it is, spare room included, and that room plays no part.
func TestHandedInIsLeft(t *testing.T) {
	room := append(some(20), api.Validator{Stake: -1}, api.Validator{Stake: 1 << 62, Key: "spare"})
	was := slices.Clone(room)
	c := ordinary()
	c.Validators = room[:20]
	want := clone(c)
	if !genesis.Good(c) || genesis.Bytes(c) != bytesOf(want) || genesis.Root(c) != genesis.Root(want) || genesis.Epoch(c, 9) != 1 {
		t.Error("spare room plays a part")
	}
	if n, ok := genesis.Total(room[:20]...); n != 190000 || !ok {
		t.Errorf("with spare room: %d, %v", n, ok)
	}
	if !slices.Equal(room, was) || !reflect.DeepEqual(c, want) {
		t.Error("what was handed in is changed")
	}
}

// No call panics, though nothing is promised of what it answers here.
func TestNoPanic(t *testing.T) {
	bad := []api.Config{
		{}, {Epoch: -1, Committee: math.MinInt, Ban: math.MaxInt}, {Epoch: math.MinInt},
		{Validators: []api.Validator{{Stake: math.MinInt}, {Stake: -1, Key: strings.Repeat("a", 1000)}}},
		{Validators: make([]api.Validator, 100), Epoch: math.MaxInt},
	}
	for _, c := range append(bad, ordinary()) {
		for _, slot := range []int{0, 1, -1, math.MinInt, math.MaxInt} {
			genesis.Epoch(c, slot)
		}
		genesis.Bytes(c)
		genesis.Root(c)
		genesis.Good(c)
		genesis.Total(c.Validators...)
	}
}
