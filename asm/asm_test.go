package asm

import (
	"fmt"
	"strings"
	"testing"

	"spinet/api"
	"spinet/risc"
)

// hold holds Line of w, and Word of its line, to both models.
func hold(t *testing.T, w uint32) {
	t.Helper()
	want, good := wantLine(w)
	s, err := Line(w)
	if !good {
		if s != "" || err != api.ErrOp {
			t.Fatalf("P6.1: Line(%08x) = %q, %v, want nothing and ErrOp", w, s, err)
		}
		return
	}
	if s != want || err != api.OK {
		t.Fatalf("P6.1: Line(%08x) = %q, %v, want %q", w, s, err, want)
	}
	if v, ok := wantWord(s); v != w || !ok {
		t.Fatalf("the models part at %08x: %q", w, s)
	}
	if v, err := Word(s); v != w || err != api.OK {
		t.Fatalf("P6.1: Word(%q) = %08x, %v, want %08x", s, v, err, w)
	}
}

func holdText(t *testing.T, s string) {
	t.Helper()
	want, ok := wantWord(s)
	w, err := Word(s)
	if ok && (w != want || err != api.OK) {
		t.Fatalf("P6.1: Word(%q) = %08x, %v, want %08x", s, w, err, want)
	}
	if !ok && (w != 0 || err != api.ErrLine) {
		t.Fatalf("P6.1: Word(%q) = %08x, %v, want 0 and ErrLine", s, w, err)
	}
}

func TestExamples(t *testing.T) {
	for w, s := range map[uint32]string{
		0x01280003: "ADD R1, R2, R3",
		0xf7ffffff: "BL.T -1",
		0xffffffff: "BL.F -1",
	} {
		if got, err := Line(w); got != s || err != api.OK {
			t.Errorf("P6.1: Line(%08x) = %q, %v, want %q", w, got, err, s)
		}
		if got, err := Word(s); got != w || err != api.OK {
			t.Errorf("P6.1: Word(%q) = %08x, %v, want %08x", s, got, err, w)
		}
	}
}

// The upper sixteen bits have every form, operation, mark, condition and
// register.
func TestEveryUpperHalf(t *testing.T) {
	lows := []uint32{0, 9, 10, 15, 16, 0xffff}
	for up := range uint32(1 << 16) {
		hold(t, up<<16|lows[up%6])
	}
}

func TestEveryNameAndMark(t *testing.T) {
	ims := []int{0, 1, 9, 10, 15}
	for form := range 4 {
		for op := range 16 {
			for marks := range 4 {
				top := uint32(form)<<30 | uint32(marks)<<28
				for _, im := range ims {
					hold(t, top|uint32(op)<<16|uint32(im))
					hold(t, top|uint32(op)<<24|uint32(im))
				}
			}
		}
	}
}

func TestRegisters(t *testing.T) {
	for _, n := range []uint32{0, 9, 10, 15} {
		for _, top := range []uint32{0, 0x40000000, 0x80000000, 0xa0000000} {
			hold(t, top|n<<24)
			hold(t, top|n<<20)
			hold(t, top|n<<24|(15-n)<<20)
		}
		hold(t, 0x12300000|n)
		hold(t, 0x01280000|n)
		hold(t, 0xc7000000|n)
		hold(t, 0xd7000000|n)
	}
}

func TestEndsOfNumbers(t *testing.T) {
	for _, im := range []int{0, 1, 9, 10, 65534, 65535} {
		hold(t, 0x412a0000|uint32(im))
		hold(t, 0x712a0000&^0xf0000|uint32(im))
	}
	for _, im := range []int{-524288, -524287, -10, -1, 0, 1, 524286, 524287} {
		for top := range uint32(4) {
			hold(t, 2<<30|top<<28|0x1200000|uint32(im)&0xfffff)
		}
	}
	for _, im := range []int{-8388608, -8388607, -10, -1, 0, 1, 8388606, 8388607} {
		hold(t, 0xe7000000|uint32(im)&0xffffff)
		hold(t, 0xff000000|uint32(im)&0xffffff)
	}
}

func TestNoInstructions(t *testing.T) {
	words := []uint32{
		0x000c0000, 0x400c0000, 0x0f0fffff, // Op beyond 11
		0x00000010, 0x0000fff0, // bits that must be 0
		0x10000000, 0x30080000, 0x20010000, 0x60010000, 0x200b0000, // marks
		0xc0000010, 0xc0100000, 0xdfffffff, // a register's jump with bits
	}
	for _, w := range words {
		_, want := risc.Decode(w)
		if s, err := Line(w); s != "" || err != want || err == api.OK {
			t.Errorf("P6.1: Line(%08x) = %q, %v, want risc's %v", w, s, err, want)
		}
		hold(t, w)
	}
}

func TestWrongTexts(t *testing.T) {
	texts := []string{
		// no whole line
		"", " ", "\n", "ADD", "ADD ", "B.T", "B.T ", "LDR", "LDR ", ",", ", ", ", , ",
		// blanks
		"ADDR1, R2, R3", "ADD  R1, R2, R3", " ADD R1, R2, R3", "ADD R1, R2, R3 ", "ADD R1, R2, R3\n",
		"ADD\tR1, R2, R3", "ADD R1,R2, R3", "ADD R1, R2,R3", "ADD R1,  R2, R3", "ADD R1 , R2, R3",
		"B.T  1", "B.T 1 ", "B.T 1\n", "B.T R1\r", "\nB.T R1", "LDR R1, R2, 3\x00", "ADD R1 R2 R3", "ADD R1; R2; R3",
		// names
		"add R1, R2, R3", "Add R1, R2, R3", "NOP R1, R2, R3", "AD R1, R2, R3", "ADDD R1, R2, R3", "b.T 1", "B.t 1",
		"B.X 1", "B 1", "B. 1", "BL 1", "BL. 1", ".T 1", "BLL.T 1", "BT 1", "B.T.T 1", "B,T 1", "T 1", "LD R1, R2, 3",
		"ST R1, R2, 3", "STRB R1, R2, 3", "MI R1, R2, R3", "ADD.T 1", "R1, R2, R3", "LDb R1, R2, 3",
		// marks
		`MOV"' R1, R0, R0`, `MOV"' R1, R0, 1`, `MOV" R1, R0, R0`, `ADD" R1, R2, R3`, `ADD'" R1, R2, R3`, "LSL' R1, R2, R3",
		"LSL' R1, R2, 3", "DIV' R1, R2, R3", "MOV'' R1, R2, R3", `MOV'"" R1, R2, R3`, "STR' R1, R2, 0", `STR" R1, R2, 0`,
		"LDB' R1, R2, 0", "B'.T 1", "B.T' 1", `BL".T 1`, "ADD ' R1, R2, R3", "'ADD R1, R2, R3", "ADD` R1, R2, R3",
		// registers
		"ADD R16, R2, R3", "ADD R1, R16, R3", "ADD R1, R2, R16", "ADD R01, R2, R3", "ADD R1, R02, R3", "ADD R1, R2, R00",
		"ADD R-1, R2, R3", "ADD R1, R-1, R3", "ADD R1, R2, R-1", "ADD R, R2, R3", "ADD R1, R, R3", "ADD R1, R2, R",
		"ADD R1, R2, R+3", "ADD r1, R2, R3", "ADD R1, R2, r3", "ADD RR1, R2, R3", "ADD R1, R2, RR3", "ADD R0x1, R2, R3",
		"ADD R1_0, R2, R3", "ADD R-0, R2, R3", "B.T R16", "B.T R", "B.T R01", "B.T R-1", "B.T r1", "LDR R16, R2, 0", "LDR R1, R16, 0",
		"ADD R18446744073709551617, R2, R3", "ADD R4294967297, R2, R3",
		// numbers
		"ADD R1, R2, +1", "ADD R1, R2, 01", "ADD R1, R2, 00", "ADD R1, R2, -0", "ADD R1, R2, -1", "ADD R1, R2, 65536",
		"ADD R1, R2, 1_0", "ADD R1, R2, 0x1", "ADD R1, R2, 1.", "ADD R1, R2, -", "ADD R1, R2, ", "ADD R1, R2, 1R",
		"LDR R1, R2, 524288", "LDR R1, R2, -524289", "LDR R1, R2, +1", "LDR R1, R2, 01", "LDR R1, R2, -01", "LDR R1, R2, -0",
		"LDR R1, R2, --1", "LDR R1, R2, - 1", "B.T 8388608", "B.T -8388609", "B.T +1", "B.T 01", "B.T -0", "B.T 00", "B.T -",
		"B.T 4294967296", "B.T 4294967295", "B.T 18446744073709551615", "B.T 18446744073709551616", "B.T \u0661",
		"ADD R1, R2, 18446744073709551616", "LDR R1, R2, 4294967295",
		"B.T " + strings.Repeat("1", 1000), "ADD R1, R2, " + strings.Repeat("0", 1000), "ADD R1, R2, -" + strings.Repeat("9", 1000),
		"ADD R" + strings.Repeat("0", 1000) + "1, R2, R3",
		// the one where the other must stand
		"ADD 1, R2, R3", "ADD R1, 2, R3", "ADD 1, 2, 3", "LDR R1, R2, R3", "LDR 1, R2, 3", "LDR R1, 2, 3", "STB R1, R2, R0",
		// too few, too many
		"ADD R1", "ADD R1, R2", "ADD R1, R2, R3, R4", "ADD R1, R2, 3, 4", "ADD R1, R2, R3, ", "LDR R1, R2", "LDR R1, 3",
		"LDR R1, R2, R3, 4", "LDR R1, R2, 3, 4", "B.T R1, R2", "B.T 1, 2", "B.T R1, R2, R3", "BL.T 1, 2, 3", "B.T R0, R0",
		"ADD R1, R2, R3, R4, R5", "B.T 0, 0", "ADD R1, 3",
		// no instruction's line, or none at all
		`LSL" R1, R2, R3`, `MUL'" R1, R2, R3`, `ROR'" R1, R2, 3`, "#000c0000", "#01280003", strings.Repeat("R", 100),
		"\xff\xfe", "ADD R1, R2, R3\xff", "ADD R1, R2, R3 ; a sum", strings.Repeat("ADD R1, R2, R3", 2), strings.Repeat(", ", 5000),
	}
	for _, s := range texts {
		if _, ok := wantWord(s); ok {
			t.Errorf("the model takes %q", s)
		}
		holdText(t, s)
	}
}

// Each name, with each marks, and each kind of last operand.
func TestNamesWithOperands(t *testing.T) {
	names := []string{"LDR", "LDB", "STR", "STB", "B", "BL", "NOP", ""}
	for i := range 12 {
		names = append(names, opName(i))
	}
	for i := range 16 {
		names = append(names, "B."+condName(i), "BL."+condName(i), condName(i))
	}
	for _, name := range names {
		for _, marks := range []string{"", "'", `"`, `'"`, `"'`} {
			for _, rest := range []string{"", " ", " R9", " -1", " 10", " R1, R10, R15", " R0, R9, 0", " R15, R0, -1", " R1, 2", " R1, R2, R3, R4"} {
				holdText(t, name+marks+rest)
			}
		}
	}
}

// Im of every form, beside and beyond the ends of all of them.
func TestNumbersOfEachForm(t *testing.T) {
	for _, head := range []string{"MOV R1, R0, ", `MOV'" R1, R0, `, "LDR R1, R2, ", "STB R1, R2, ", "B.T ", "BL.F ", "B.T R", "ADD R1, R2, R"} {
		for _, power := range []int{0, 4, 15, 16, 19, 20, 23, 24, 31, 32} {
			for d := -1; d <= 1; d++ {
				holdText(t, fmt.Sprint(head, 1<<power+d))
				holdText(t, fmt.Sprint(head, -1<<power+d))
			}
		}
	}
}
