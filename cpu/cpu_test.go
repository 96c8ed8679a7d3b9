package cpu

import (
	"fmt"
	"math"
	"slices"
	"strings"
	"testing"

	"spinet/api"
	"spinet/memory"
	"spinet/risc"
)

func word(t *testing.T, x api.Instr) uint32 {
	t.Helper()
	w, err := risc.Encode(x)
	if err != api.OK {
		t.Fatalf("no instruction: %+v", x)
	}
	return w
}

func code(t *testing.T, l ...api.Instr) []uint32 {
	t.Helper()
	var words []uint32
	for _, x := range l {
		words = append(words, word(t, x))
	}
	return words
}

func im(op, a, b, n int) api.Instr {
	return api.Instr{Form: api.FormIm, Op: op, A: a, B: b, Im: n}
}

func mov(a, n int) api.Instr { return im(api.OpMov, a, 0, n) }

// Register a becomes 0xffff0000 and n: a port, or a number below 0.
func high(a, n int) api.Instr {
	return api.Instr{Form: api.FormIm, V: true, A: a, Im: n}
}

func load(a, b, n int) api.Instr {
	return api.Instr{Form: api.FormMem, A: a, B: b, Im: n}
}

func store(a, b, n int) api.Instr {
	return api.Instr{Form: api.FormMem, U: true, A: a, B: b, Im: n}
}

func bytewise(x api.Instr) api.Instr {
	x.V = true
	return x
}

func by(cond, n int) api.Instr {
	return api.Instr{Form: api.FormJump, U: true, A: cond, Im: n}
}

func to(cond, c int) api.Instr {
	return api.Instr{Form: api.FormJump, A: cond, C: c}
}

func linked(x api.Instr) api.Instr {
	x.V = true
	return x
}

const always = 7

func made(t *testing.T, input string, words ...uint32) *Machine {
	t.Helper()
	m, err := New(words, 0, input)
	if err != api.OK || m == nil {
		t.Fatalf("P5.1: New of %d words: %v, %v", len(words), m, err)
	}
	return m
}

func ran(t *testing.T, m *Machine, fuel int) api.Outcome {
	t.Helper()
	o, err := m.Run(fuel)
	if err != api.OK {
		t.Fatalf("P5.2: Run(%d): %v", fuel, err)
	}
	return o
}

func told(o api.Outcome) string {
	return fmt.Sprintf("{end %d trap %d out %q steps %d read %d}", o.End, o.Trap, o.Out, o.Steps, o.Read)
}

func mustEnd(t *testing.T, promise string, got, want api.Outcome) {
	t.Helper()
	if got != want {
		t.Errorf("%s: %s, want %s", promise, told(got), told(want))
	}
}

func TestNewErrors(t *testing.T) {
	full, over := strings.Repeat("i", api.MaxInput), strings.Repeat("i", api.MaxInput+1)
	for _, c := range []struct {
		words, start int
		input        string
		want         api.Errno
	}{
		{0, 0, "", api.OK}, {0, 1, "", api.ErrArg}, {0, -1, "", api.ErrArg},
		{1, 0, "", api.OK}, {1, 1, "", api.OK}, {1, 2, "", api.ErrArg}, {1, -1, "", api.ErrArg},
		{3, 0, full, api.OK}, {3, 0, over, api.ErrLong}, {3, 0, over + over, api.ErrLong},
		{3, math.MaxInt, "", api.ErrArg}, {3, math.MinInt, "", api.ErrArg}, {3, 1 << 32, "", api.ErrArg},
		{api.MaxWords, 0, full, api.OK}, {api.MaxWords, api.MaxWords, full, api.OK},
		{api.MaxWords, api.MaxWords + 1, full, api.ErrArg},
		{api.MaxWords + 1, 0, "", api.ErrMany}, {api.MaxWords + 1, api.MaxWords + 1, "", api.ErrMany},
		{3, 4, over, api.ErrLong}, {3, -1, over, api.ErrLong},
		{api.MaxWords + 1, -1, "", api.ErrMany}, {api.MaxWords + 1, 0, over, api.ErrMany},
		{api.MaxWords + 1, -1, over, api.ErrMany},
	} {
		m, err := New(make([]uint32, c.words), c.start, c.input)
		if err != c.want || (m != nil) != (c.want == api.OK) {
			t.Errorf("P5.1: %d words, start %d, %d bytes: %v, %v, want %v", c.words, c.start, len(c.input), m != nil, err, c.want)
		}
		if m != nil && (m.PC() != c.start || m.Memory().Size() != c.words) {
			t.Errorf("P5.1: %d words, start %d: PC %d, Size %d", c.words, c.start, m.PC(), m.Memory().Size())
		}
	}
	if m, err := New(nil, 0, ""); err != api.OK || m == nil || m.Memory() == nil || m.Memory().Size() != 0 {
		t.Errorf("P5.1: New(nil): %v, %v", m, err)
	}
}

func TestNewIsAllZero(t *testing.T) {
	m := made(t, "in", 5, 6)
	want := model{mem: bytesOf([]uint32{5, 6}), end: api.EndFuel}
	if got := seen(t, m); got != want {
		t.Errorf("P5.1: a new machine: %+v", got)
	}
	mustEnd(t, "P5.2: no step yet", ran(t, m, 0), api.Outcome{End: api.EndFuel})
	if got := seen(t, m); got != want {
		t.Errorf("P5.2: behind Run(0): %+v", got)
	}
}

func TestNewCopiesWords(t *testing.T) {
	words := code(t, mov(1, 20), store(1, 1, -8), load(2, 0, 12), mov(3, 3), mov(4, 4))
	room := slices.Clone(words)
	m, _ := New(room[:4], 0, "")
	m2, _ := New(room[:4], 0, "")
	o := ran(t, m, 4)
	if !slices.Equal(room, words) {
		t.Errorf("P5.1: a run changed New's argument: %x", room)
	}
	room[0] = 0xffffffff
	mustEnd(t, "P5.1: words changed behind New", ran(t, m2, 4), o)
	if m.Reg(1) != 20 || m2.Reg(1) != 20 || m.Reg(2) != 20 {
		t.Errorf("P5.1: R1 %d, %d, R2 %d", m.Reg(1), m2.Reg(1), m.Reg(2))
	}
}

func TestRunErrors(t *testing.T) {
	var none *Machine
	for _, fuel := range []int{math.MinInt, -1, 0, 1, api.MaxFuel, api.MaxFuel + 1, math.MaxInt} {
		if o, err := none.Run(fuel); o != (api.Outcome{}) || err != api.ErrArg {
			t.Errorf("P5.2: nil: Run(%d): %+v, %v", fuel, o, err)
		}
	}
	going := made(t, "", code(t, mov(1, 1), mov(2, 2))...)
	ran(t, going, 1)
	ended := made(t, "", code(t, high(1, 0xffc0), high(2, 5), store(2, 1, 8), store(2, 1, 4))...)
	ran(t, ended, 9)
	for _, m := range []*Machine{going, ended} {
		before := seen(t, m)
		for _, fuel := range []int{math.MinInt, -1 << 32, -1, api.MaxFuel + 1, 1<<32 + 1, math.MaxInt} {
			if o, err := m.Run(fuel); o != (api.Outcome{}) || err != api.ErrArg {
				t.Errorf("P5.2: Run(%d): %+v, %v", fuel, o, err)
			}
		}
		if seen(t, m) != before {
			t.Error("P5.2: a refused Run changed the machine")
		}
	}
}

func TestFuel(t *testing.T) {
	m := made(t, "", code(t, im(api.OpAdd, 1, 1, 1), by(always, -2))...)
	sum := 0
	for _, fuel := range []int{0, 1, 2, 3, 1000, api.MaxFuel - 1, api.MaxFuel, 0} {
		mustEnd(t, "P5.2", ran(t, m, fuel), api.Outcome{End: api.EndFuel, Steps: fuel})
		sum += fuel
		if m.Reg(1) != uint32(sum+1)/2 || m.PC() != sum%2 {
			t.Errorf("P5.2: behind %d steps: R1 %d, PC %d", sum, m.Reg(1), m.PC())
		}
	}
}

func TestLastStepOfFuelMayEnd(t *testing.T) {
	words := code(t, high(1, 0xffc0), store(0, 1, 0))
	mustEnd(t, "P5.2", ran(t, made(t, "", words...), 1), api.Outcome{End: api.EndFuel, Steps: 1})
	mustEnd(t, "P5.2", ran(t, made(t, "", words...), 2), api.Outcome{End: api.EndHalt, Steps: 2})
	mustEnd(t, "P5.2", ran(t, made(t, "", words...), 3), api.Outcome{End: api.EndHalt, Steps: 2})
}

func TestAsked(t *testing.T) {
	var l []api.Instr
	for n := range 16 {
		l = append(l, mov(n, 100+n))
	}
	m := made(t, "", code(t, l...)...)
	if ran(t, m, 16); m.PC() != 16 {
		t.Errorf("P5.3: PC %d", m.PC())
	}
	for n := range 16 {
		if m.Reg(n) != uint32(100+n) {
			t.Errorf("P5.3: Reg(%d): %d", n, m.Reg(n))
		}
	}
	var none *Machine
	for _, n := range []int{math.MinInt, -1 << 32, -16, -1, 16, 17, 32, 1 << 32, math.MaxInt} {
		if m.Reg(n) != 0 || none.Reg(n) != 0 {
			t.Errorf("P5.3: Reg(%d): %d, of nil %d", n, m.Reg(n), none.Reg(n))
		}
	}
	if none.Reg(0) != 0 || none.Reg(15) != 0 || none.PC() != 0 || none.Memory() != nil {
		t.Error("P5.3: of nil: 0, 0, nil")
	}
}

func TestMemoryItself(t *testing.T) {
	m := made(t, "", code(t, load(1, 0, 12), im(api.OpAdd, 1, 1, 1), store(1, 0, 12), mov(0, 0), mov(2, 2))...)
	mem := m.Memory()
	if !mem.Store(12, 6) {
		t.Fatal("P5.3: no Store into Memory")
	}
	ran(t, m, 3)
	if w, ok := mem.Load(12); w != 7 || !ok || m.Reg(1) != 7 {
		t.Errorf("P5.3: stored 6, loaded and put back 7: %d, R1 %d", w, m.Reg(1))
	}
	// What is stored at PC is what the next step takes.
	mem.Store(12, word(t, mov(3, 33)))
	mem.PutByte(16, 44)
	ran(t, m, 2)
	if m.Reg(3) != 33 || m.Reg(2) != 44 || m.Memory() != mem {
		t.Errorf("P5.3: R3 %d, R2 %d", m.Reg(3), m.Reg(2))
	}
	if other := made(t, "", 1).Memory(); other == mem || other == (*memory.Memory)(nil) {
		t.Error("P5.3: two machines, one memory")
	}
}

func TestExample(t *testing.T) {
	m := made(t, "", code(t,
		api.Instr{Form: api.FormIm, U: true, A: 1, Im: 0xffff},
		im(api.OpAdd, 1, 1, 0xffc0),
		store(0, 1, 0))...)
	mustEnd(t, "example", ran(t, m, 50), api.Outcome{End: api.EndHalt, Steps: 3})
	if m.Reg(1) != api.PortHalt {
		t.Errorf("example: R1 %x", m.Reg(1))
	}
}
