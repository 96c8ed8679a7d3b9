package alu

import (
	"math"
	"math/big"
	"slices"
	"testing"

	"spinet/api"
)

// The tests hold the package against whole numbers of any size and words as
// lists of bits: nothing there is cut or wraps round.

var (
	two31 = new(big.Int).Exp(big.NewInt(2), big.NewInt(31), nil)
	two32 = new(big.Int).Exp(big.NewInt(2), big.NewInt(32), nil)
	zero  = new(big.Int)
)

func whole(x uint32) *big.Int { return new(big.Int).SetUint64(uint64(x)) }

func withSign(x uint32) *big.Int {
	v := whole(x)
	if v.Cmp(two31) >= 0 {
		v.Sub(v, two32)
	}
	return v
}

// split is v as a word and what is above it: v is above times 2^32 and word.
func split(v *big.Int) (word uint32, above *big.Int) {
	above, rest := new(big.Int).DivMod(v, two32, new(big.Int))
	return uint32(rest.Uint64()), above
}

func fitsSigned(v *big.Int) bool {
	return v.Cmp(two31) < 0 && v.Cmp(new(big.Int).Neg(two31)) >= 0
}

func wantSum(op int, u bool, b, n uint32, f api.Flags) (r uint32, c, v bool) {
	one := big.NewInt(0)
	if u && f.C {
		one.SetInt64(1)
	}
	reckon := func(x, y *big.Int) *big.Int {
		if op == 8 {
			return new(big.Int).Add(new(big.Int).Add(x, y), one)
		}
		return new(big.Int).Sub(new(big.Int).Sub(x, y), one)
	}
	all := reckon(whole(b), whole(n))
	r, _ = split(all)
	if op == 8 {
		c = all.Cmp(two32) >= 0
	} else {
		c = all.Sign() < 0
	}
	return r, c, !fitsSigned(reckon(withSign(b), withSign(n)))
}

func wantProduct(u bool, b, n uint32) (lower, upper uint32) {
	p := new(big.Int).Mul(withSign(b), withSign(n))
	if u {
		p = new(big.Int).Mul(whole(b), whole(n))
	}
	lower, above := split(p)
	upper, _ = split(above)
	return lower, upper
}

// Euclid's division is the one that rounds down, for a divisor above 0.
func wantQuotient(b, n uint32) (q, rest uint32) {
	x, y := withSign(b), withSign(n)
	if y.Cmp(zero) <= 0 {
		return 0, b
	}
	quo, mod := new(big.Int).DivMod(x, y, new(big.Int))
	q, _ = split(quo)
	rest, _ = split(mod)
	return q, rest
}

func list(x uint32) (l [32]int) {
	for i := range l {
		l[i] = int(x % 2)
		x /= 2
	}
	return l
}

func wordOf(bit func(i int) int) uint32 {
	var w uint32
	for i := 31; i >= 0; i-- {
		w = 2*w + uint32(bit(i))
	}
	return w
}

func wantBits(op int, b, n uint32) uint32 {
	x, y, k := list(b), list(n), int(n%32)
	return wordOf(func(i int) int {
		switch op {
		case 1:
			if i < k {
				return 0
			}
			return x[i-k]
		case 2:
			return x[min(i+k, 31)]
		case 3:
			return x[(i+k)%32]
		case 4:
			return min(x[i], y[i])
		case 5:
			return min(x[i], 1-y[i])
		case 6:
			return max(x[i], y[i])
		}
		return (x[i] + y[i]) % 2
	})
}

type answer struct {
	r, h uint32
	f    api.Flags
	ok   bool
}

func do(op int, u bool, b, n, h uint32, f api.Flags) answer {
	r, h2, f2, ok := Do(op, u, b, n, h, f)
	return answer{r, h2, f2, ok}
}

func want(op int, u bool, b, n, h uint32, f api.Flags) answer {
	if op < 0 || op > 11 || u && !slices.Contains([]int{0, 8, 9, 10}, op) {
		return answer{}
	}
	a := answer{h: h, f: f, ok: true}
	switch {
	case op == 0 && u:
		a.r = h
	case op == 0:
		a.r = n
	case op == 8 || op == 9:
		a.r, a.f.C, a.f.V = wantSum(op, u, b, n, f)
	case op == 10:
		a.r, a.h = wantProduct(u, b, n)
	case op == 11:
		a.r, a.h = wantQuotient(b, n)
	default:
		a.r = wantBits(op, b, n)
	}
	a.f.N, a.f.Z = list(a.r)[31] == 1, a.r == 0
	return a
}

func allFlags() []api.Flags {
	var fs []api.Flags
	for _, n := range []bool{false, true} {
		for _, z := range []bool{false, true} {
			for _, c := range []bool{false, true} {
				for _, v := range []bool{false, true} {
					fs = append(fs, api.Flags{N: n, Z: z, C: c, V: v})
				}
			}
		}
	}
	return fs
}

// words are those at both ends and around the sign, counts at the ends of a
// word, ordinary ones, and each bit alone.
func words() []uint32 {
	ws := []uint32{
		0, 1, 2, 3, 5, 7, 10, 30, 31, 32, 33, 63, 64, 65, 100, 1000, 46341, 65535, 65536, 65537,
		0x12345678, 0x55555555, 0x7ffffffe, 0x7fffffff, 0x80000000, 0x80000001, 0x80000002,
		0xaaaaaaaa, 0xdeadbeef, 0xfffefffd, 0xffff0000, 0xffffff9c, 0xffffffe0, 0xffffffe1,
		0xfffffff9, 0xfffffffc, 0xfffffffd, 0xfffffffe, 0xffffffff,
	}
	for i := range 32 {
		ws = append(ws, uint32(1)<<i)
	}
	slices.Sort(ws)
	return slices.Compact(ws)
}

// hold holds Do to the model for one operation, with all pairs of words, C set
// and not, and N, Z and V that differ from what the answer has.
func hold(t *testing.T, op int, u bool) {
	t.Helper()
	flags := []api.Flags{{}, {C: true}, {V: true, N: true}, {N: true, Z: true, C: true, V: true}}
	for _, b := range words() {
		for _, n := range words() {
			for i, f := range flags {
				h := []uint32{0x89abcdef, 0, 0x80000000, 1}[i]
				if got, w := do(op, u, b, n, h, f), want(op, u, b, n, h, f); got != w {
					t.Fatalf("P3.1: Do(%d, %v, %08x, %08x, %08x, %v) = %+v, want %+v", op, u, b, n, h, f, got, w)
				}
			}
		}
	}
}

func TestOperations(t *testing.T) {
	for op := -1; op <= 12; op++ {
		hold(t, op, false)
		hold(t, op, true)
	}
}

func TestOperationsWithAllFlags(t *testing.T) {
	ws := []uint32{0, 1, 33, 0x7fffffff, 0x80000000, 0xffffffff}
	for op := -1; op <= 12; op++ {
		for _, f := range allFlags() {
			for _, b := range ws {
				for _, n := range ws {
					for _, h := range []uint32{0, 9, 0x80000000, 0xffffffff} {
						for _, u := range []bool{false, true} {
							if got, w := do(op, u, b, n, h, f), want(op, u, b, n, h, f); got != w {
								t.Fatalf("P3.1: Do(%d, %v, %08x, %08x, %08x, %v) = %+v, want %+v", op, u, b, n, h, f, got, w)
							}
						}
					}
				}
			}
		}
	}
}

func TestNoOperations(t *testing.T) {
	f := api.Flags{N: true, Z: true, C: true, V: true}
	wrong := []int{math.MinInt, -1 << 32, -1<<32 + 8, -16, -1, 12, 13, 15, 16, 24, 256, 1 << 32, 1<<32 + 8, math.MaxInt}
	for _, op := range wrong {
		for _, u := range []bool{false, true} {
			if got := do(op, u, 6, 3, 9, f); got != (answer{}) {
				t.Errorf("P3.1: Do(%d, %v, ..) = %+v, want zero and false", op, u, got)
			}
		}
	}
	for _, op := range []int{api.OpLsl, api.OpAsr, api.OpRor, api.OpAnd, api.OpAnn, api.OpIor, api.OpXor, api.OpDiv} {
		if got := do(op, true, 6, 3, 9, f); got != (answer{}) {
			t.Errorf("P3.1: Do(%d, true, ..) = %+v, want zero and false", op, got)
		}
	}
}

// The numbers that api gives are those that iota gives here.
func TestNumbersOfOperations(t *testing.T) {
	theirs := []int{
		api.OpMov, api.OpLsl, api.OpAsr, api.OpRor, api.OpAnd, api.OpAnn,
		api.OpIor, api.OpXor, api.OpAdd, api.OpSub, api.OpMul, api.OpDiv,
	}
	ours := []int{opMov, opLsl, opAsr, opRor, opAnd, opAnn, opIor, opXor, opAdd, opSub, opMul, opDiv}
	if !slices.Equal(ours, theirs) || len(ours) != ops {
		t.Errorf("P3.1: operations %v, of api %v", ours, theirs)
	}
}

func TestAnswersWrittenOut(t *testing.T) {
	const top, ones = 0x80000000, 0xffffffff
	for _, x := range []struct {
		op   int
		u    bool
		b, n uint32
		f    api.Flags
		want answer
	}{
		{api.OpMov, false, 3, 4, api.Flags{C: true, V: true}, answer{4, 9, api.Flags{C: true, V: true}, true}},
		{api.OpMov, true, 3, 4, api.Flags{}, answer{9, 9, api.Flags{}, true}},
		{api.OpLsl, false, 3, 31, api.Flags{}, answer{top, 9, api.Flags{N: true}, true}},
		{api.OpLsl, false, 3, 32, api.Flags{N: true}, answer{3, 9, api.Flags{}, true}},
		{api.OpAsr, false, top, 31, api.Flags{}, answer{ones, 9, api.Flags{N: true}, true}},
		{api.OpAsr, false, top, ones, api.Flags{}, answer{ones, 9, api.Flags{N: true}, true}},
		{api.OpRor, false, 3, 65, api.Flags{}, answer{top + 1, 9, api.Flags{N: true}, true}},
		{api.OpAnn, false, 0xff, 0x0f, api.Flags{V: true}, answer{0xf0, 9, api.Flags{V: true}, true}},
		{api.OpAdd, false, ones, 1, api.Flags{}, answer{0, 9, api.Flags{Z: true, C: true}, true}},
		{api.OpAdd, false, ones, 0, api.Flags{C: true}, answer{ones, 9, api.Flags{N: true}, true}},
		{api.OpAdd, true, ones, 0, api.Flags{C: true}, answer{0, 9, api.Flags{Z: true, C: true}, true}},
		{api.OpAdd, true, top - 1, 0, api.Flags{C: true}, answer{top, 9, api.Flags{N: true, V: true}, true}},
		{api.OpSub, true, 0, 0, api.Flags{C: true}, answer{ones, 9, api.Flags{N: true, C: true}, true}},
		{api.OpSub, true, top, 0, api.Flags{C: true}, answer{top - 1, 9, api.Flags{V: true}, true}},
		{api.OpSub, false, 0, top, api.Flags{}, answer{top, 9, api.Flags{N: true, C: true, V: true}, true}},
		{api.OpMul, false, ones, ones, api.Flags{}, answer{1, 0, api.Flags{}, true}},
		{api.OpMul, true, ones, ones, api.Flags{}, answer{1, ones - 1, api.Flags{}, true}},
		{api.OpDiv, false, top, 3, api.Flags{C: true}, answer{0xd5555555, 1, api.Flags{N: true, C: true}, true}},
		{api.OpDiv, false, ones, top - 1, api.Flags{}, answer{ones, top - 2, api.Flags{N: true}, true}},
		{api.OpDiv, false, 7, 0, api.Flags{V: true}, answer{0, 7, api.Flags{Z: true, V: true}, true}},
		{api.OpDiv, false, top, top, api.Flags{}, answer{0, top, api.Flags{Z: true}, true}},
	} {
		if got := do(x.op, x.u, x.b, x.n, 9, x.f); got != x.want {
			t.Errorf("P3.1: Do(%d, %v, %08x, %08x, 9, %v) = %+v, want %+v", x.op, x.u, x.b, x.n, x.f, got, x.want)
		}
	}
}

// Each condition as the flags that make it hold, N, Z, C, V from the left, of
// the sixteen in the order of allFlags.
func TestConditions(t *testing.T) {
	sets := []string{
		"0000000011111111", // N
		"0000111100001111", // Z
		"0011001100110011", // C
		"0101010101010101", // V
		"0011111100111111", // C or Z
		"0101010110101010", // N unlike V
		"0101111110101111", // N unlike V, or Z
		"1111111111111111", // always
	}
	for i, f := range allFlags() {
		for cond, set := range sets {
			w := set[i] == '1'
			if Holds(cond, f) != w {
				t.Errorf("P3.2: Holds(%d, %v) = %v", cond, f, !w)
			}
			if Holds(cond+8, f) == w {
				t.Errorf("P3.2: Holds(%d, %v) = %v", cond+8, f, w)
			}
		}
		for _, cond := range []int{math.MinInt, -1 << 32, -16, -9, -8, -1, 16, 17, 23, 24, 31, 1 << 32, 1<<32 + 7, math.MaxInt} {
			if Holds(cond, f) {
				t.Errorf("P3.2: Holds(%d, %v), which is no condition", cond, f)
			}
		}
	}
}

func TestDifferenceTellsWhichIsBelow(t *testing.T) {
	for _, b := range words() {
		for _, n := range words() {
			for _, f := range []api.Flags{{}, {N: true, Z: true, C: true, V: true}} {
				_, _, f2, _ := Do(api.OpSub, false, b, n, 0, f)
				below, belowSigned := whole(b).Cmp(whole(n)), withSign(b).Cmp(withSign(n))
				for _, x := range []struct {
					cond int
					want bool
				}{
					{5, belowSigned < 0}, {6, belowSigned <= 0}, {13, belowSigned >= 0}, {14, belowSigned > 0},
					{2, below < 0}, {4, below <= 0}, {10, below >= 0}, {12, below > 0},
					{1, below == 0}, {9, below != 0},
				} {
					if Holds(x.cond, f2) != x.want {
						t.Fatalf("P3.3: condition %d behind %08x less %08x is %v", x.cond, b, n, !x.want)
					}
				}
			}
		}
	}
}

func TestQuotientAndRestPutTogether(t *testing.T) {
	for _, b := range words() {
		for _, n := range words() {
			if withSign(n).Sign() <= 0 {
				continue
			}
			q, rest, _, ok := Do(api.OpDiv, false, b, n, 5, api.Flags{})
			again := new(big.Int).Mul(withSign(q), withSign(n))
			again.Add(again, withSign(rest))
			if !ok || again.Cmp(withSign(b)) != 0 {
				t.Fatalf("P3.4: %08x by %08x: quotient %08x, rest %08x", b, n, q, rest)
			}
			if withSign(rest).Sign() < 0 || withSign(rest).Cmp(withSign(n)) >= 0 {
				t.Fatalf("P3.4: %08x by %08x: rest %08x", b, n, rest)
			}
		}
	}
}

func TestProductsWordsAreTheWhole(t *testing.T) {
	join := func(upper, lower *big.Int) *big.Int {
		return new(big.Int).Add(new(big.Int).Mul(upper, two32), lower)
	}
	for _, b := range words() {
		for _, n := range words() {
			lower, upper, _, ok := Do(api.OpMul, true, b, n, 5, api.Flags{})
			if got := join(whole(upper), whole(lower)); !ok || got.Cmp(new(big.Int).Mul(whole(b), whole(n))) != 0 {
				t.Fatalf("P3.5: %08x times %08x without signs: %v", b, n, got)
			}
			lower, upper, _, ok = Do(api.OpMul, false, b, n, 5, api.Flags{})
			if got := join(withSign(upper), whole(lower)); !ok || got.Cmp(new(big.Int).Mul(withSign(b), withSign(n))) != 0 {
				t.Fatalf("P3.5: %08x times %08x with signs: %v", b, n, got)
			}
		}
	}
}

// Two numbers of two words each: their products word by word, put together by
// sums that hand C on, are the whole product of four words.
func TestLongProducts(t *testing.T) {
	ends := []uint32{0, 1, 0x7fffffff, 0x80000000, 0xdeadbeef, 0xffffffff}
	for _, x1 := range ends {
		for _, x0 := range ends {
			for _, y1 := range ends {
				for _, y0 := range ends {
					x, y := uint64(x1)<<32|uint64(x0), uint64(y1)<<32|uint64(y0)
					got := longProduct([2]uint32{x0, x1}, [2]uint32{y0, y1})
					all := new(big.Int).Mul(new(big.Int).SetUint64(x), new(big.Int).SetUint64(y))
					for i := range got {
						var w uint32
						w, all = split(all)
						if got[i] != w {
							t.Fatalf("P3.5: word %d of %016x times %016x is %08x, want %08x", i, x, y, got[i], w)
						}
					}
				}
			}
		}
	}
}

func longProduct(x, y [2]uint32) (sum [4]uint32) {
	for i := range x {
		for j := range y {
			lower, upper, _, _ := Do(api.OpMul, true, x[i], y[j], 0, api.Flags{})
			var f api.Flags
			for k := i + j; k < 4; k++ {
				part := uint32(0)
				switch k - i - j {
				case 0:
					part = lower
				case 1:
					part = upper
				}
				sum[k], _, f, _ = Do(api.OpAdd, true, sum[k], part, 0, f)
			}
		}
	}
	return sum
}

func TestExamples(t *testing.T) {
	r, h, _, ok := Do(api.OpDiv, false, 0xfffffff9, 2, 0, api.Flags{})
	if r != 0xfffffffc || h != 1 || !ok {
		t.Errorf("P3.1: -7 by 2: %08x, %08x, %v", r, h, ok)
	}
	r, _, f, ok := Do(api.OpSub, false, 0, 1, 0, api.Flags{})
	if r != 0xffffffff || !f.C || f.V || !ok {
		t.Errorf("P3.1: 0 less 1: %08x, %v, %v", r, f, ok)
	}
}
