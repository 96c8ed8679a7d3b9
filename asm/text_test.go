package asm

import (
	"math/rand"
	"slices"
	"strings"
	"testing"

	"spinet/api"
)

// holdLines holds Lines of l to the model, and Words of that to l.
func holdLines(t *testing.T, l []uint32) {
	t.Helper()
	var want strings.Builder
	for _, w := range l {
		want.WriteString(wantBare(w) + "\n")
	}
	before := slices.Clone(l)
	s := Lines(l)
	if s != want.String() {
		t.Fatalf("P6.2: Lines(%08x) = %q, want %q", l, s, want.String())
	}
	if !slices.Equal(l, before) {
		t.Fatalf("rule 2: Lines changed %08x to %08x", before, l)
	}
	if back, n, err := Words(s); !slices.Equal(back, l) || n != 0 || err != api.OK {
		t.Fatalf("P6.3: Words of Lines of %08x = %08x, %d, %v", l, back, n, err)
	}
}

func holdWords(t *testing.T, s string) {
	t.Helper()
	want, at, ok := wantWords(s)
	l, n, err := Words(s)
	if !ok {
		if len(l) != 0 || n != at || err != api.ErrLine {
			t.Fatalf("P6.2: Words(%q) = %08x, %d, %v, want nothing, %d, ErrLine", s, l, n, err, at)
		}
		return
	}
	if !slices.Equal(l, want) || n != 0 || err != api.OK {
		t.Fatalf("P6.2: Words(%q) = %08x, %d, %v, want %08x", s, l, n, err, want)
	}
	if back := Lines(l); back != s {
		t.Fatalf("P6.3: Lines of Words of %q = %q", s, back)
	}
}

func TestLinesOfWords(t *testing.T) {
	holdLines(t, nil)
	holdLines(t, []uint32{})
	holdLines(t, []uint32{0})
	holdLines(t, []uint32{0x000c0000})
	holdLines(t, []uint32{0xffffffff})
	holdLines(t, []uint32{0x01280003, 0x00000010, 0xcff00001, 0, 0xdabcdef0, 0x0fffffff})
	if s := Lines([]uint32{0x10, 0x01280003, 0xdabcdef0}); s != "#00000010\nADD R1, R2, R3\n#dabcdef0\n" {
		t.Errorf("P6.2: %q", s)
	}
	if Lines(nil) != "" {
		t.Error("P6.2: no words have no lines")
	}
}

func TestManyWords(t *testing.T) {
	r := rand.New(rand.NewSource(6))
	for n := range 200 {
		l := make([]uint32, n)
		for i := range l {
			l[i] = r.Uint32()
			if r.Intn(3) == 0 {
				l[i] &= 0x3f0f000f
			}
		}
		holdLines(t, l)
	}
}

func TestSpareRoom(t *testing.T) {
	room := []uint32{0, 0x000c0000, 7, 8, 9}
	holdLines(t, room[:2])
	if !slices.Equal(room, []uint32{0, 0x000c0000, 7, 8, 9}) {
		t.Errorf("rule 2: spare room became %08x", room)
	}
	s := Lines(room[:2])
	one, _, _ := Words(s)
	two, _, _ := Words(s)
	one[0] = 5
	_ = append(one, 6)
	if !slices.Equal(two, room[:2]) || Lines(room[:2]) != s {
		t.Error("rule 2: two answers share memory")
	}
}

func TestTexts(t *testing.T) {
	for _, s := range []string{
		"", "MOV R0, R0, R0\n", "#000c0000\n", "B.T 1\n#000c0000\nB.T 2\n",
		// a last line without its byte 10
		"MOV R0, R0, R0", "B.T 1\nB.T 2", "B.T 1\nx", "#000c0000", "B.T 1\n ", "B.T 1\n#000c0000",
		// empty lines
		"\n", "\n\n", "\nB.T 1\n", "B.T 1\n\n", "B.T 1\n\nB.T 2\n",
		// other ends of lines
		"B.T 1\r\n", "B.T 1\r", "B.T 1\x00\n",
		// # lines of instructions
		"#01280003\n", "#00000000\n", "#ffffffff\n", "B.T 1\nB.T 1\n#00000000\n", "#000c0000\n#01280003\n#000c0000\n",
		// # lines of none
		"#\n", "#0\n", "# 000c0000\n", "#000C0000\n", "#CFF00001\n", "#cff0000A\n", "#cFf00001\n", "#00c0000\n", "#0000c0000\n", "#000c00000\n",
		"#000c000\n", "#000c0000 \n", " #000c0000\n", "##000c0000\n", "#-00c0000\n", "#+00c0000\n", "#0x0c0000\n", "#000c_0000\n", "#000g0000\n",
		"000c0000\n", "#c0000\n", "#1000c0000\n", "#ffffffffffffffffffffffff\n", "#000c000\xc3\n", "#" + strings.Repeat("0", 1000) + "c0000\n",
		// several that are none
		"B.T 1\nx\ny\n", "x\ny\nB.T", "B.T 1\nB.T 2\nb.t 3\n#\n", "B.T 1\nB.T 2\nB.T 3\nB.T 4\n\n\n", "B.T 1\n#0000000f\nx",
	} {
		holdWords(t, s)
	}
}

func TestWhichLine(t *testing.T) {
	good := "B.T 1\n"
	for n := range 12 {
		for _, bad := range []string{"\n", "x\n", "#00000000\n", "B.T 1", "b.t 1\n"} {
			s := strings.Repeat(good, n) + bad
			if l, at, err := Words(s); len(l) != 0 || at != n || err != api.ErrLine {
				t.Fatalf("P6.2: Words(%q) = %08x, %d, %v, want line %d", s, l, at, err, n)
			}
			holdWords(t, s+good+"\n")
		}
	}
}

func TestMostLines(t *testing.T) {
	full := strings.Repeat("B.T 1\n", api.MaxWords)
	if l, n, err := Words(full); len(l) != api.MaxWords || n != 0 || err != api.OK {
		t.Errorf("P6.2: %d lines: %d, %d, %v", api.MaxWords, len(l), n, err)
	}
	if l, n, err := Words(full + "B.T 1"); len(l) != 0 || n != api.MaxWords || err != api.ErrLine {
		t.Errorf("P6.2: a line more without its byte 10: %d, %d, %v", len(l), n, err)
	}
	if l, n, err := Words(strings.Repeat("\n", api.MaxWords)); len(l) != 0 || n != 0 || err != api.ErrLine {
		t.Errorf("P6.2: empty lines: %d, %d, %v", len(l), n, err)
	}
	for _, s := range []string{
		full + "\n", full + "B.T 1\n", "x" + full + "\n", full + "x\n", full + "\nx", "#00000000\n" + full,
		strings.Repeat("\n", api.MaxWords+1), strings.Repeat("\n", 3*api.MaxWords),
	} {
		if l, n, err := Words(s); len(l) != 0 || n != 0 || err != api.ErrMany {
			t.Errorf("P6.2: %d bytes 10: %d, %d, %v, want nothing, 0, ErrMany", strings.Count(s, "\n"), len(l), n, err)
		}
	}
	more := slices.Repeat([]uint32{0xe7000001}, api.MaxWords+1)
	if s := Lines(more); s != full+"B.T 1\n" {
		t.Errorf("P6.2: Lines of more than MaxWords words has %d bytes", len(s))
	}
}

// Lines and texts that are nearly right: one byte out, in, or another.
func TestNearlyRight(t *testing.T) {
	r := rand.New(rand.NewSource(66))
	const letters = "R0159-,. '\"#BLTDMOVSab\n\x00+x"
	for range 40000 {
		s := wantBare(r.Uint32())
		if r.Intn(2) == 0 {
			s = wantBare(r.Uint32() & 0xffff000f)
		}
		at, c := r.Intn(len(s)), letters[r.Intn(len(letters)):][:1]
		switch r.Intn(4) {
		case 0:
			s = s[:at] + s[at+1:]
		case 1:
			s = s[:at] + c + s[at:]
		case 2:
			s = s[:at] + c + s[at+1:]
		}
		holdText(t, s)
		if r.Intn(4) == 0 {
			holdWords(t, "B.T 1\n"+s+"\n"+wantBare(r.Uint32())+"\n")
		}
	}
}
