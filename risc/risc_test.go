package risc

import (
	"math"
	"slices"
	"testing"

	"spinet/api"
)

// The tests hold the package against the chapter's own list of what a form has
// and between which ends; the words are reckoned with powers of two alone.

func within(v, from, to int) bool { return from <= v && v <= to }

func wantGood(x api.Instr) bool {
	if !within(x.A, 0, 15) || !within(x.B, 0, 15) || !within(x.C, 0, 15) || !within(x.Op, 0, 11) {
		return false
	}
	upon := slices.Contains([]int{0, 8, 9, 10}, x.Op)
	switch x.Form {
	case 0:
		return x.Im == 0 && (!x.U || upon) && (!x.V || x.Op == 0 && x.U)
	case 1:
		return x.C == 0 && within(x.Im, 0, 65535) && (!x.U || upon)
	case 2:
		return x.C == 0 && x.Op == 0 && within(x.Im, -524288, 524287)
	case 3:
		if x.U {
			return x.B == 0 && x.C == 0 && x.Op == 0 && within(x.Im, -8388608, 8388607)
		}
		return x.B == 0 && x.Op == 0 && x.Im == 0
	}
	return false
}

func wantWord(x api.Instr) uint32 {
	const two16, two20, two24 = 65536, 1048576, 16777216
	n := x.Form*1073741824 + x.A*two24 + x.B*two20 + x.Op*two16 + x.C + x.Im
	if x.U {
		n += 536870912
	}
	if x.V {
		n += 268435456
	}
	if x.Im < 0 && x.Form == 2 {
		n += two20
	}
	if x.Im < 0 && x.Form == 3 {
		n += two24
	}
	return uint32(n)
}

// hold holds all three calls to the model, for one instruction.
func hold(t *testing.T, x api.Instr) {
	t.Helper()
	if good := Good(x); good != wantGood(x) {
		t.Fatalf("P2.1: Good(%+v) = %v", x, good)
	}
	w, err := Encode(x)
	if !wantGood(x) {
		if w != 0 || err != api.ErrOp {
			t.Fatalf("P2.1: Encode(%+v) = %08x, %v, want 0, ErrOp", x, w, err)
		}
		return
	}
	if w != wantWord(x) || err != api.OK {
		t.Fatalf("P2.1: Encode(%+v) = %08x, %v, want %08x", x, w, err, wantWord(x))
	}
	if y, err := Decode(w); y != x || err != api.OK {
		t.Fatalf("P2.2: Decode(%08x) = %+v, %v, want %+v", w, y, err, x)
	}
}

// eachMark calls f with every form, every pair of marks, and operations from
// below 0 to beyond 15.
func eachMark(f func(x api.Instr)) {
	for form := -1; form <= 4; form++ {
		for op := -1; op <= 17; op++ {
			for m := range 4 {
				f(api.Instr{Form: form, Op: op, U: m%2 == 1, V: m/2 == 1})
			}
		}
	}
}

func TestMarksAndOperations(t *testing.T) {
	good := 0
	eachMark(func(x api.Instr) {
		hold(t, x)
		if Good(x) {
			good++
		}
	})
	// FormReg 12 + 4 + 1, FormIm twice 12 + 4, FormMem and FormJump 4 each.
	if good != 17+32+4+4 {
		t.Errorf("P2.1: %d forms, operations and marks are let, want 57", good)
	}
}

func TestRegisters(t *testing.T) {
	ends := []int{math.MinInt, -1 << 32, -16, -1, 16, 17, 31, 32, 256, 1 << 32, 1<<32 + 1, math.MaxInt}
	for i := range 16 {
		ends = append(ends, i)
	}
	eachMark(func(x api.Instr) {
		for _, r := range ends {
			y := x
			y.A = r
			hold(t, y)
			y.A, y.B = 5, r
			hold(t, y)
			y.B, y.C = 0, r
			hold(t, y)
			y.B = 10
			hold(t, y)
		}
	})
}

func TestNumbers(t *testing.T) {
	nums := []int{math.MinInt, -1 << 32, -1<<32 + 1, 1 << 32, 1<<32 + 1, math.MaxInt, 0, 1, -1, 1234, -1234}
	for _, n := range []int{15, 16, 19, 20, 23, 24, 31} {
		p := 1 << n
		nums = append(nums, p-1, p, p+1, -p-1, -p, -p+1)
	}
	eachMark(func(x api.Instr) {
		for _, n := range nums {
			for _, c := range []int{0, 1, 15} {
				y := x
				y.Im, y.C = n, c
				hold(t, y)
				y.A, y.B = 15, 15
				hold(t, y)
				y.B = 0
				hold(t, y)
			}
		}
	})
}

func TestWrongForms(t *testing.T) {
	for _, form := range []int{math.MinInt, -4, -1, 4, 5, 6, 7, 8, 1 << 32, 1<<32 + 1, math.MaxInt} {
		for _, u := range []bool{false, true} {
			hold(t, api.Instr{Form: form, U: u})
			hold(t, api.Instr{Form: form, U: u, A: 3, C: 2})
		}
	}
}

// wantInstr is the instruction of w by division, and whether it is one.
func wantInstr(w uint32) (api.Instr, bool) {
	n := int(w)
	x := api.Instr{Form: n / 1073741824, U: n/536870912%2 == 1, V: n/268435456%2 == 1, A: n / 16777216 % 16}
	b, op := n/1048576%16, n/65536%16
	switch {
	case x.Form == 0:
		x.B, x.Op, x.C = b, op, n%16
	case x.Form == 1:
		x.B, x.Op, x.Im = b, op, n%65536
	case x.Form == 2:
		x.B, x.Im = b, (n%1048576+524288)%1048576-524288
	case x.U:
		x.Im = (n%16777216+8388608)%16777216 - 8388608
	default:
		x.C = n % 16
	}
	return x, wantGood(x) && wantWord(x) == w
}

func holdWord(t *testing.T, w uint32) {
	t.Helper()
	x, err := Decode(w)
	want, good := wantInstr(w)
	if !good {
		if x != (api.Instr{}) || err != api.ErrOp {
			t.Fatalf("P2.1: Decode(%08x) = %+v, %v, want the zero Instr, ErrOp", w, x, err)
		}
		return
	}
	if x != want || err != api.OK {
		t.Fatalf("P2.1: Decode(%08x) = %+v, %v, want %+v", w, x, err, want)
	}
	if again, err := Encode(x); again != w || err != api.OK {
		t.Fatalf("P2.2: Encode(%+v) = %08x, %v, want %08x", x, again, err, w)
	}
}

// Every upper half, with each bit of the lower half alone, missing alone, and
// as the end of a run of ones: so every bit that must be 0 is set once.
func TestWords(t *testing.T) {
	lower := []uint32{0, 0xffff, 0x1234, 0xabcd, 0x000f, 0xfff0}
	for i := range 16 {
		one := uint32(1) << i
		lower = append(lower, one, 0xffff-one, one-1)
	}
	for upper := range uint32(65536) {
		for _, l := range lower {
			holdWord(t, upper*65536+l)
		}
	}
}

func TestBitsThatMustBeZero(t *testing.T) {
	for bit := 4; bit < 16; bit++ {
		if x, err := Decode(0x01280003 | 1<<bit); err != api.ErrOp || x != (api.Instr{}) {
			t.Errorf("P2.1: FormReg with bit %d: %+v, %v", bit, x, err)
		}
	}
	for bit := 4; bit < 24; bit++ {
		if x, err := Decode(0xc7000003 | 1<<bit); err != api.ErrOp || x != (api.Instr{}) {
			t.Errorf("P2.1: FormJump with bit %d: %+v, %v", bit, x, err)
		}
	}
}

func TestExamples(t *testing.T) {
	for _, e := range []struct {
		x api.Instr
		w uint32
	}{
		{api.Instr{Form: api.FormReg, A: 1, B: 2, Op: 8, C: 3}, 0x01280003},
		{api.Instr{Form: api.FormJump, U: true, V: true, A: 7, Im: -1}, 0xf7ffffff},
	} {
		if w, err := Encode(e.x); w != e.w || err != api.OK {
			t.Errorf("P2.1: Encode(%+v) = %08x, %v, want %08x", e.x, w, err, e.w)
		}
		if x, err := Decode(e.w); x != e.x || err != api.OK {
			t.Errorf("P2.1: Decode(%08x) = %+v, %v, want %+v", e.w, x, err, e.x)
		}
	}
	if x, err := Decode(0x000c0000); x != (api.Instr{}) || err != api.ErrOp {
		t.Errorf("P2.1: Decode(000c0000) = %+v, %v, want ErrOp", x, err)
	}
}
