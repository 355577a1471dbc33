package board

import (
	"encoding/hex"
	"slices"
	"testing"

	"toller/api"
)

// P6.1: the lesser digest comes first, byte by byte; of the same ones the lesser place. No two validators are known whose digests are the same, so the lots are made up here.
func TestOrder(t *testing.T) {
	want := []lot{
		{api.Root{}, 0},
		{api.Root{}, 1},
		{api.Root{}, 63},
		{api.Root{31: 1}, 5},
		{api.Root{31: 255}, 0},
		{api.Root{30: 1}, 2},
		{api.Root{1: 255, 31: 255}, 1},
		{api.Root{0: 1}, 0},
		{api.Root{0: 127, 1: 255}, 9},
		{api.Root{0: 128}, 4},
		{api.Root{0: 255}, 3},
		{api.Root{0: 255}, 4},
		{api.Root{0: 255, 31: 1}, 0},
	}
	for i, a := range want {
		for j, b := range want {
			got := order(a, b)
			if i < j && got >= 0 || i > j && got <= 0 || i == j && got != 0 {
				t.Errorf("%d and %d: %d", i, j, got)
			}
		}
	}
	turned := slices.Clone(want)
	slices.Reverse(turned)
	slices.SortFunc(turned, order)
	if !slices.Equal(turned, want) {
		t.Errorf("sorted: %v", turned)
	}
}

// P6.1: board, the slot as four bytes, the validator's place as two: digests worked out apart from any Go code.
func TestDigestOf(t *testing.T) {
	for _, x := range []struct {
		slot, who int
		want      string
	}{
		{0, 0, "2774c8bfccf219dbb7ec9e4d0ffbb4828202ef99c9f1b4abae2761ed7723ed6b"},
		{0, 1, "2a28588f24214e9545fd897528744941a5e383c8fa9fc08b428342445cb2feea"},
		{1, 0, "d48d8a3af68c451bd0ee60bb565caae0c48079366e7fc6282f98db11955deb07"},
		{0x01020304, 5, "a647b0cb0f72bc20fe131e5ec53d8facd90902b0c8ec62cde1a311ef53c35ffc"},
		{1 << 30, 63, "3ee3ec7f14f4721867363399f7e496a70b6970b3ed0e31078dae87dfd7a84d50"},
	} {
		r := digestOf(x.slot, x.who)
		if got := hex.EncodeToString(r[:]); got != x.want {
			t.Errorf("slot %d, place %d: %s, want %s", x.slot, x.who, got, x.want)
		}
	}
}
