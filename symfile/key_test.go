package symfile

import (
	"math/big"
	"testing"

	"spinet/api"
)

// P17.1: over the bytes of the file with Key 0, reckoned with numbers of any
// size.
func TestKeysAreReckonedFromTheLeft(t *testing.T) {
	for _, f := range []api.Face{bare(), rich(), full()} {
		g := f
		g.Key = 0
		s, err := Encode(g)
		if err != api.OK {
			t.Fatal(err)
		}
		k, modulus := big.NewInt(2166136261), new(big.Int).Lsh(big.NewInt(1), 32)
		for _, b := range []byte(s) {
			k.Xor(k, big.NewInt(int64(b)))
			k.Mul(k, big.NewInt(16777619))
			k.Mod(k, modulus)
		}
		mustKey(t, f, uint32(k.Uint64()))
	}
}

// Numbers that were reckoned elsewhere, over bytes that were written out by hand.
func TestKeysAsNumbers(t *testing.T) {
	mustKey(t, bare(), 0xb3196855)
	mustKey(t, rich(), 0x7daaf3de)
}

// f.Key is not looked at: the key of what holds its key already is that key.
func TestTheKeyItselfDoesNotCount(t *testing.T) {
	for _, f := range []api.Face{bare(), rich(), full()} {
		want := modelKey(f)
		for _, k := range []uint32{0, 1, 5, want, ^want, 1 << 31, 1<<32 - 1} {
			f.Key = k
			mustKey(t, f, want)
		}
	}
}

// sehEud is a text behind which k is 0, and the three bytes of 0 behind it leave
// it so.
func TestNoKeyIsZero(t *testing.T) {
	f := bare()
	f.Objs = []api.Obj{textOf("k", "sehEud")}
	k := uint32(2166136261)
	for _, b := range []byte(modelFile(f)) {
		k = (k ^ uint32(b)) * 16777619
	}
	if k != 0 {
		t.Fatalf("k is %d", k)
	}
	mustKey(t, f, 1)
	f.Key = 1
	mustKey(t, f, 1)
	f.Objs[0].Value.Text = "sehEue"
	mustKey(t, f, modelKey(f))
}

// A key of every part: whatever is changed alone changes it (of these changes
// each does).
func TestEveryPartCounts(t *testing.T) {
	turns := []func(f *api.Face){
		func(f *api.Face) { f.Uses[0].Key++ },
		func(f *api.Face) { f.Uses[1].Key = 1 << 31 },
		func(f *api.Face) { f.Uses[0], f.Uses[1] = f.Uses[1], f.Uses[0] },
		func(f *api.Face) { f.Uses = append(f.Uses, api.Used{Name: "D"}) },
		func(f *api.Face) { f.Types[7].Name = "S" },
		func(f *api.Face) { f.Types[7].Fields[0].Name = "c" },
		func(f *api.Face) { f.Types[7].Fields[0].Export = true },
		func(f *api.Face) { f.Types[7].Fields[1].Export = false },
		func(f *api.Face) { f.Types[7].Fields[1].Type = 2 },
		func(f *api.Face) { f.Types[9].Desc = 6 },
		func(f *api.Face) { f.Types[10].Params[0].Var = false },
		func(f *api.Face) { f.Types[10].Params[1].Var = true },
		func(f *api.Face) { f.Types[10].Params[1].Type = 2 },
		func(f *api.Face) { f.Types[10].Result = 0 },
		func(f *api.Face) { f.Types[11].Base = 0 },
		func(f *api.Face) { f.Types[12].Len = 301 },
		func(f *api.Face) { f.Types[13].Elem = 4 },
		func(f *api.Face) { f.Types[18].Mod = "C" },
		func(f *api.Face) { f.Types = append(f.Types, array(1, 1)) },
		func(f *api.Face) { f.Objs[0].Name = "z" },
		func(f *api.Face) { f.Objs[0].Value.N = 200 },
		func(f *api.Face) { f.Objs[3].Value.N = 1 << 30 },
		func(f *api.Face) { f.Objs[5].Value.Text = "texts" },
		func(f *api.Face) { f.Objs[7].Type = 2 },
		func(f *api.Face) { f.Objs[10] = typeOf("w", 2) },
		func(f *api.Face) { f.Objs[9].N = 63 },
		func(f *api.Face) { f.Objs[12].N = 2 },
		func(f *api.Face) { f.Objs[0], f.Objs[1] = f.Objs[1], f.Objs[0] },
		func(f *api.Face) { f.Objs = f.Objs[:12] },
	}
	seen := map[uint32]int{modelKey(rich()): -1}
	for i, turn := range turns {
		f := rich()
		turn(&f)
		mustRoundTrip(t, f)
		k, _ := Key(f)
		if before, twice := seen[k]; twice {
			t.Errorf("the changes %d and %d have one key", before, i)
		}
		seen[k] = i
	}
}
