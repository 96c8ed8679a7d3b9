package cpu

import (
	"testing"

	"spinet/api"
)

const places = 1 << 30 // of words

func TestConditions(t *testing.T) {
	for cond := range 16 {
		for _, f := range allFlags() {
			for _, x := range []api.Instr{by(cond, 5), linked(by(cond, 5)), to(cond, 3), linked(to(cond, 3))} {
				s := model{flags: f, h: 9, pc: 1, mem: bytesOf(code(t, mov(1, 1), x))}
				s.regs[3], s.regs[15] = 7*4, 0xabc
				got := holdStep(t, "P5.2", s, "")
				pc, link := 2, uint32(0xabc)
				if holds(cond, f) {
					pc = 7
					if x.V {
						link = 8
					}
				}
				if got.pc != pc || got.regs[15] != link || got.flags != f || got.end != api.EndFuel {
					t.Errorf("P5.2: %+v with %+v: PC %d, R15 %x", x, f, got.pc, got.regs[15])
				}
			}
		}
	}
}

// A word that is taken stands below MaxWords: by Im alone no jump comes up to
// 2^30, and all that are seen to be cut come from below 0.
func TestJumpsByIm(t *testing.T) {
	words := make([]uint32, api.MaxWords)
	for _, c := range []struct{ at, im, pc int }{
		{0, 0, 1}, {0, 1, 2}, {0, -1, 0}, {0, -2, places - 1}, {0, -3, places - 2},
		{9, 0, 10}, {9, 20, 30}, {9, -10, 0}, {9, -9, 1}, {9, -11, places - 1},
		{0, 1<<23 - 1, 1 << 23}, {0, -1 << 23, places + 1 - 1<<23},
		{api.MaxWords - 1, 0, api.MaxWords}, {api.MaxWords - 1, 1<<23 - 1, api.MaxWords + 1<<23 - 1},
		{api.MaxWords - 1, -api.MaxWords, 0}, {api.MaxWords - 1, -api.MaxWords - 1, places - 1},
		{api.MaxWords - 1, -1 << 23, places + api.MaxWords - 1<<23},
	} {
		for _, v := range []bool{false, true} {
			x := api.Instr{Form: api.FormJump, U: true, V: v, A: always, Im: c.im}
			words[c.at] = word(t, x)
			m, _ := New(words, c.at, "")
			words[c.at] = 0
			mustEnd(t, "P5.2", ran(t, m, 1), api.Outcome{End: api.EndFuel, Steps: 1})
			link := uint32(0)
			if v {
				link = uint32(4*c.at + 4)
			}
			if m.PC() != c.pc || m.Reg(15) != link {
				t.Errorf("P5.2: at %d by %d: PC %d, want %d, R15 %d", c.at, c.im, m.PC(), c.pc, m.Reg(15))
			}
		}
	}
}

func TestJumpsToRegisters(t *testing.T) {
	for _, v := range append(edges, 4, 5, 6, 7, 8, 40, 41, 43, 0xfffffffb, 0xfffffffc) {
		for c := range 16 {
			for _, x := range []api.Instr{to(always, c), linked(to(always, c))} {
				s := model{pc: 2, mem: bytesOf(code(t, mov(1, 1), mov(1, 1), x))}
				for n := range s.regs {
					s.regs[n] = 4 * uint32(1000+n)
				}
				s.regs[c] = v
				got, link := holdStep(t, "P5.2", s, ""), s.regs[15]
				if x.V {
					link = 12
				}
				if got.pc != int(v/4) || got.regs[15] != link {
					t.Errorf("P5.2: to R%d, %x, V %v: PC %d, R15 %x", c, v, x.V, got.pc, got.regs[15])
				}
			}
		}
	}
}

func TestCallAndReturn(t *testing.T) {
	m := made(t, "", code(t,
		linked(by(always, 2)), high(9, 0xffc0), store(0, 9, 0),
		mov(2, 26), linked(to(always, 15)))...)
	mustEnd(t, "P5.2", ran(t, m, 9), api.Outcome{End: api.EndHalt, Steps: 5})
	if m.Reg(2) != 26 || m.Reg(15) != 20 || m.PC() != 3 {
		t.Errorf("P5.2: R2 %d, R15 %d, PC %d", m.Reg(2), m.Reg(15), m.PC())
	}
}

func TestWhereEndsStand(t *testing.T) {
	bad := uint32(0x000c0000)
	port := code(t, high(2, 0xffc8))
	for _, c := range []struct {
		name      string
		words     []uint32
		end, pc   int
		steps     int
		unchanged bool
	}{
		{"no words", nil, api.EndPlace, 0, 1, true},
		{"behind the last", code(t, mov(1, 1)), api.EndPlace, 1, 2, true},
		{"below 0", code(t, by(always, -2)), api.EndPlace, places - 1, 2, true},
		{"far", code(t, high(1, 0xffff), to(always, 1)), api.EndPlace, places - 1, 3, true},
		{"no instruction", append(code(t, mov(1, 1)), bad, 0), api.EndOp, 1, 2, true},
		{"no instruction at 0", []uint32{bad}, api.EndOp, 0, 1, true},
		{"a load", code(t, high(1, 1), load(1, 1, 0), mov(1, 1)), api.EndPlace, 2, 2, true},
		{"a store", code(t, high(1, 1), bytewise(store(1, 1, 0)), mov(1, 1)), api.EndPlace, 2, 2, true},
		{"halt", append(port, code(t, store(2, 2, -8), mov(1, 1))...), api.EndHalt, 2, 2, false},
		{"trap", append(port, code(t, store(2, 2, -4), mov(1, 1))...), api.EndTrap, 2, 2, false},
	} {
		m := made(t, "in", c.words...)
		ran(t, m, c.steps-1)
		before := seen(t, m)
		o := ran(t, m, 9)
		if o.End != c.end || o.Steps != 1 || m.PC() != c.pc {
			t.Errorf("P5.2: %s: end %d, %d steps, PC %d", c.name, o.End, o.Steps, m.PC())
		}
		before.pc, before.end = m.PC(), o.End
		if c.unchanged && seen(t, m) != before {
			t.Errorf("P5.2: %s: changed %+v to %+v", c.name, before, seen(t, m))
		}
		holdEndedForGood(t, c.name, m, o)
	}
}

// Not by more fuel, nor by a memory that would let the run go on by now.
func holdEndedForGood(t *testing.T, name string, m *Machine, o api.Outcome) {
	t.Helper()
	before := seen(t, m)
	o.Steps = 0
	for _, fuel := range []int{0, 1, 2, 100, api.MaxFuel} {
		mustEnd(t, "P5.2: "+name+", ever after", ran(t, m, fuel), o)
	}
	if seen(t, m) != before {
		t.Errorf("P5.2: %s: a Run behind the end changed the machine", name)
	}
	for i := range m.Memory().Size() {
		m.Memory().Store(uint32(4*i), word(t, mov(7, 7)))
	}
	mustEnd(t, "P5.2: "+name+", with another memory", ran(t, m, 9), o)
	if m.Reg(7) != 0 {
		t.Errorf("P5.2: %s: a step behind the end", name)
	}
}

// Fuel is no end: also where the next step is one.
func TestGoesOnAfterFuel(t *testing.T) {
	m := made(t, "ab", code(t, high(2, 0xffc8), load(1, 2, 0), store(1, 2, 0), store(2, 2, -4))...)
	for _, c := range []struct {
		fuel int
		want api.Outcome
	}{
		{0, api.Outcome{End: api.EndFuel}},
		{2, api.Outcome{End: api.EndFuel, Steps: 2, Read: 1}},
		{0, api.Outcome{End: api.EndFuel, Read: 1}},
		{1, api.Outcome{End: api.EndFuel, Steps: 1, Out: "a", Read: 1}},
		{5, api.Outcome{End: api.EndTrap, Trap: -56, Steps: 1, Out: "a", Read: 1}},
		{0, api.Outcome{End: api.EndTrap, Trap: -56, Out: "a", Read: 1}},
	} {
		mustEnd(t, "P5.2", ran(t, m, c.fuel), c.want)
	}
}
