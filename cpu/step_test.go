package cpu

import (
	"testing"

	"spinet/api"
	"spinet/risc"
)

var edges = []uint32{0, 1, 2, 3, 31, 32, 0x7fff, 0x8000, 0xffff, 0x10000, 0x12345678, 0x7fffffff, 0x80000000, 0x80000001, 0xffff0000, 0xffffffff}

func allFlags() []api.Flags {
	var l []api.Flags
	for k := range 16 {
		l = append(l, api.Flags{N: k&8 > 0, Z: k&4 > 0, C: k&2 > 0, V: k&1 > 0})
	}
	return l
}

// One step of the machine in state s, held against the model's.
func holdStep(t *testing.T, promise string, s model, input string) model {
	t.Helper()
	s.end = api.EndFuel
	m, want := machineIn(t, s, input), s.step(input)
	o, err := m.Run(1)
	if got := seen(t, m); err != api.OK || got != want {
		t.Fatalf("%s: a step of\n%v\ngot\n%v\nwant\n%v", promise, s, got, want)
	}
	mustEnd(t, promise, o, api.Outcome{End: want.end, Trap: want.trap, Out: want.out, Steps: 1, Read: want.read})
	return want
}

func TestRegisterForms(t *testing.T) {
	for op := range 12 {
		for mark := range 4 {
			for _, form := range []int{api.FormReg, api.FormIm} {
				x := api.Instr{Form: form, Op: op, U: mark&1 > 0, V: mark&2 > 0, A: 4, B: 5}
				if form == api.FormReg {
					x.C = 6
				} else {
					x.Im = 1
				}
				if risc.Good(x) {
					holdReckoning(t, x)
				}
			}
		}
	}
}

func holdReckoning(t *testing.T, x api.Instr) {
	t.Helper()
	for i, b := range edges {
		for j, n := range edges {
			if x.Form == api.FormIm {
				x.Im = int(n % 65536)
			}
			s := model{h: edges[(i+j)%len(edges)], mem: bytesOf(code(t, x, mov(1, 1)))}
			s.regs[4], s.regs[5], s.regs[6] = 0xdead, b, n
			for _, f := range allFlags() {
				s.flags = f
				holdStep(t, "P5.2", s, "")
			}
		}
	}
}

func TestRegistersOfEachField(t *testing.T) {
	var s model
	for n := range s.regs {
		s.regs[n] = uint32(1000 + 10*n)
	}
	for a := range 16 {
		for b := range 16 {
			for c := range 16 {
				s.mem = bytesOf(code(t, api.Instr{Op: api.OpSub, A: a, B: b, C: c}))
				want := s.regs[b] - s.regs[c]
				if got := holdStep(t, "P5.2", s, "").regs[a]; got != want {
					t.Fatalf("P5.2: R%d := R%d - R%d: %d, want %d", a, b, c, got, want)
				}
			}
		}
	}
}

func TestImmediates(t *testing.T) {
	for _, c := range []struct {
		x    api.Instr
		b    uint32
		want uint32
	}{
		{mov(1, 0x8000), 0, 0x8000}, {mov(1, 0xffff), 0, 0xffff},
		{high(1, 0), 0, 0xffff0000}, {high(1, 1), 0, 0xffff0001}, {high(1, 0x8000), 0, 0xffff8000}, {high(1, 0xffff), 0, 0xffffffff},
		{api.Instr{Form: 1, V: true, Op: api.OpAdd, A: 1, B: 2, Im: 0xfffe}, 5, 3},
		{api.Instr{Form: 1, V: true, Op: api.OpAnd, A: 1, B: 2, Im: 0x00ff}, 0x12345678, 0x12340078},
		{api.Instr{Form: 1, Op: api.OpAnd, A: 1, B: 2, Im: 0x00ff}, 0x12345678, 0x78},
		{api.Instr{Form: 1, V: true, Op: api.OpMul, A: 1, B: 2, Im: 0xffff}, 7, 0xfffffff9},
		{api.Instr{Op: api.OpAdd, A: 1, B: 2, C: 2}, 0x80000001, 2},
		{api.Instr{A: 1, C: 2}, 0xabcdef01, 0xabcdef01},
	} {
		s := model{mem: bytesOf(code(t, c.x))}
		s.regs[2] = c.b
		if got := holdStep(t, "P5.2", s, "").regs[1]; got != c.want {
			t.Errorf("P5.2: %+v of %x: %x, want %x", c.x, c.b, got, c.want)
		}
	}
}

// Op 0 with U: H, the flags, and Im above; the flags and Im move N and Z alone.
func TestMovWithU(t *testing.T) {
	for _, h := range edges {
		for _, f := range allFlags() {
			s := model{h: h, flags: f, mem: bytesOf(code(t, api.Instr{U: true, A: 3, B: 9, C: 4}))}
			s.regs[4] = 0x55
			got := holdStep(t, "P5.2", s, "")
			if got.regs[3] != h || got.flags != (api.Flags{N: h >= 1<<31, Z: h == 0, C: f.C, V: f.V}) || got.h != h {
				t.Errorf("P5.2: H %x told: %x, %+v", h, got.regs[3], got.flags)
			}
			holdFlagsTold(t, h, f)
			holdMovedUp(t, h, f)
		}
	}
}

func holdFlagsTold(t *testing.T, h uint32, f api.Flags) {
	t.Helper()
	s := model{h: h, flags: f, mem: bytesOf(code(t, api.Instr{U: true, V: true, A: 3, B: 9, C: 4}))}
	s.regs[4] = 0x55
	var r uint32
	for i, set := range []bool{f.N, f.Z, f.C, f.V} {
		if set {
			r += 1 << (31 - i)
		}
	}
	got := holdStep(t, "P5.2", s, "")
	if got.regs[3] != r || got.flags != (api.Flags{N: f.N, Z: r == 0, C: f.C, V: f.V}) || got.h != h {
		t.Errorf("P5.2: flags %+v told: %x, want %x, flags then %+v", f, got.regs[3], r, got.flags)
	}
}

func holdMovedUp(t *testing.T, h uint32, f api.Flags) {
	t.Helper()
	for _, n := range []int{0, 1, 0x7fff, 0x8000, 0xffff} {
		for _, v := range []bool{false, true} {
			s := model{h: h, flags: f, mem: bytesOf(code(t, api.Instr{Form: api.FormIm, U: true, V: v, A: 3, B: 9, Im: n}))}
			got, r := holdStep(t, "P5.2", s, ""), uint32(n)*0x10000
			if got.regs[3] != r || got.flags != (api.Flags{N: n >= 0x8000, Z: n == 0, C: f.C, V: f.V}) || got.h != h {
				t.Errorf("P5.2: Im %x, V %v moved up: %x, %+v", n, v, got.regs[3], got.flags)
			}
		}
	}
}

// The places of three words, the ends of them, and those that B and Im come
// to only modulo 2^32.
func TestMemoryPlaces(t *testing.T) {
	places := []uint32{0, 1, 2, 3, 4, 5, 7, 8, 9, 10, 11, 12, 13, 15, 16, 4 * api.MaxWords, 1 << 30, 1 << 31, 0xfffffffc, 0xffffffff}
	offsets := []int{0, 1, 3, 4, 8, -1, -4, -12, 1<<19 - 1, -1 << 19}
	for _, place := range places {
		for _, n := range offsets {
			for mark := range 4 {
				x := api.Instr{Form: api.FormMem, U: mark&1 > 0, V: mark&2 > 0, A: 1, B: 2, Im: n}
				s := model{mem: bytesOf(append(code(t, x), 0x80f1e2d3, 0x04030201))}
				s.flags, s.h = api.Flags{C: true, V: true}, 77
				s.regs[1], s.regs[2] = 0xa1b2c3d4, place-uint32(n)
				got := holdStep(t, "P5.2", s, "in")
				here := place < 12 && (x.V || place%4 == 0)
				if here != (got.end == api.EndFuel) {
					t.Errorf("P5.2: %+v at %x: end %d", x, place, got.end)
				}
				if !here && (got.end != api.EndPlace || got.regs != s.regs || got.flags != s.flags || got.mem != s.mem || got.pc != 1) {
					t.Errorf("P5.2: %+v at %x, which isn't there: %+v", x, place, got)
				}
			}
		}
	}
}

func TestLoadsAndStores(t *testing.T) {
	first, last := uint32(0), uint32(4*api.MaxWords-4)
	words := make([]uint32, api.MaxWords)
	words[1], words[api.MaxWords-1] = 0xfffefdfc, 0x80000000
	for _, c := range []struct {
		x     api.Instr
		at, v uint32
		r     uint32
		end   int
	}{
		{load(1, 2, 0), first + 4, 0, 0xfffefdfc, api.EndFuel}, {bytewise(load(1, 2, 0)), 4, 0, 0xfc, api.EndFuel},
		{bytewise(load(1, 2, 1)), 4, 0, 0xfd, api.EndFuel}, {bytewise(load(1, 2, 3)), 4, 0, 0xff, api.EndFuel},
		{load(1, 2, 0), last, 0, 0x80000000, api.EndFuel}, {bytewise(load(1, 2, 3)), last, 0, 0x80, api.EndFuel},
		{load(1, 2, 4), last, 5, 5, api.EndPlace}, {bytewise(load(1, 2, 4)), last, 5, 5, api.EndPlace},
		{load(1, 2, 2), last, 5, 5, api.EndPlace}, {load(1, 2, -8), last + 8, 0, 0x80000000, api.EndFuel},
		{load(1, 2, 8), 0xfffffffc, 0, 0xfffefdfc, api.EndFuel}, {load(1, 2, -4), 0, 5, 5, api.EndPlace},
		{store(1, 2, 0), last, 0x11223344, 0x11223344, api.EndFuel}, {store(1, 2, 4), last, 1, 1, api.EndPlace},
		{bytewise(store(1, 2, 3)), last, 0xabcd, 0xabcd, api.EndFuel}, {bytewise(store(1, 2, 4)), last, 1, 1, api.EndPlace},
		{store(1, 2, 8), 0xfffffffc, 9, 9, api.EndFuel}, {bytewise(store(1, 2, 8)), 0xfffffffd, 9, 9, api.EndFuel},
	} {
		words[0] = word(t, c.x)
		m, _ := New(words, 0, "")
		m.regs[1], m.regs[2] = c.v, c.at
		o := ran(t, m, 1)
		if o.End != c.end || m.Reg(1) != c.r || m.PC() != 1 {
			t.Errorf("P5.2: %+v at %x: end %d, R1 %x, PC %d", c.x, c.at, o.End, m.Reg(1), m.PC())
		}
		if c.x.U && c.end == api.EndFuel {
			holdStored(t, m, c.at+uint32(c.x.Im), c.v, c.x.V)
		}
	}
}

func holdStored(t *testing.T, m *Machine, place, v uint32, one bool) {
	t.Helper()
	if one {
		if b, ok := m.Memory().Byte(place); !ok || b != v%256 {
			t.Errorf("P5.2: byte %x at %x: %x, %v", v, place, b, ok)
		}
		return
	}
	if w, ok := m.Memory().Load(place); !ok || w != v {
		t.Errorf("P5.2: word %x at %x: %x, %v", v, place, w, ok)
	}
}

func TestStoreSetsNoFlags(t *testing.T) {
	for _, f := range allFlags() {
		for _, v := range edges {
			for _, x := range []api.Instr{store(1, 2, 0), bytewise(store(1, 2, 0))} {
				s := model{flags: f, mem: bytesOf(append(code(t, x), 0xffffffff))}
				s.regs[1], s.regs[2] = v, 4
				if got := holdStep(t, "P5.2", s, ""); got.flags != f {
					t.Errorf("P5.2: a store of %x: flags %+v, were %+v", v, got.flags, f)
				}
			}
		}
	}
}

func TestLoadSetsNAndZ(t *testing.T) {
	for _, f := range allFlags() {
		for _, v := range edges {
			s := model{flags: f, h: 3, mem: bytesOf(append(code(t, load(1, 2, 0)), v))}
			s.regs[1], s.regs[2] = 55, 4
			if got := holdStep(t, "P5.2", s, ""); got.regs[1] != v || got.flags != (api.Flags{N: v >= 1<<31, Z: v == 0, C: f.C, V: f.V}) {
				t.Errorf("P5.2: loaded %x: %x, %+v", v, got.regs[1], got.flags)
			}
			s.mem = bytesOf(append(code(t, bytewise(load(1, 2, 0))), v))
			if got := holdStep(t, "P5.2", s, ""); got.regs[1] != v%256 || got.flags != (api.Flags{Z: v%256 == 0, C: f.C, V: f.V}) {
				t.Errorf("P5.2: loaded a byte of %x: %x, %+v", v, got.regs[1], got.flags)
			}
		}
	}
}

// A load into the register that its place is of, and a store of it.
func TestSameRegisterTwice(t *testing.T) {
	for _, x := range []api.Instr{load(2, 2, 4), bytewise(load(2, 2, 5)), store(2, 2, 4), bytewise(store(2, 2, 6))} {
		s := model{mem: bytesOf(append(code(t, x), 0x0a0b0c0d, 0x01020304))}
		s.regs[2] = 4
		holdStep(t, "P5.2", s, "")
	}
}
