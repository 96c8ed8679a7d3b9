package cpu

import (
	"strings"
	"testing"

	"spinet/api"
)

// Every place round the ports, loaded and stored to: only the ports are there.
func TestPlacesRoundPorts(t *testing.T) {
	for place := uint32(0xffffff80); place != 0; place++ {
		for mark := range 4 {
			for _, v := range edges {
				x := api.Instr{Form: api.FormMem, U: mark&1 > 0, V: mark&2 > 0, A: 1, B: 2}
				s := model{flags: api.Flags{Z: true, C: true}, mem: bytesOf(code(t, x)), out: "ahead"}
				s.regs[1], s.regs[2] = v, place
				got := holdStep(t, "P5.2", s, "in")
				if end := portEnd(place, x.U); got.end != end {
					t.Errorf("P5.2: %+v at %x: end %d, want %d", x, place, got.end, end)
				}
			}
		}
	}
}

func portEnd(place uint32, stored bool) int {
	switch {
	case stored && place == api.PortHalt:
		return api.EndHalt
	case stored && place == api.PortTrap:
		return api.EndTrap
	case place == api.PortData, !stored && place == api.PortState:
		return api.EndFuel
	}
	return api.EndPlace
}

func TestPortsLoadedOtherwise(t *testing.T) {
	for _, c := range []struct {
		x api.Instr
		n int
	}{
		{load(1, 2, 0), 0xffc0}, {load(1, 2, 0), 0xffc4}, {store(1, 2, 0), 0xffcc},
		{load(1, 2, 1), 0xffc8}, {load(1, 2, 2), 0xffcc}, {store(1, 2, 1), 0xffc8}, {store(1, 2, 3), 0xffc0}, {store(1, 2, 2), 0xffc4},
	} {
		for _, x := range []api.Instr{c.x, bytewise(c.x)} {
			m := made(t, "in", code(t, high(2, c.n), mov(1, 65), x)...)
			mustEnd(t, "P5.2", ran(t, m, 9), api.Outcome{End: api.EndPlace, Steps: 3})
			if m.Reg(1) != 65 || m.PC() != 3 {
				t.Errorf("P5.2: %+v: R1 %d, PC %d", x, m.Reg(1), m.PC())
			}
		}
	}
}

func TestPortData(t *testing.T) {
	for _, one := range []bool{false, true} {
		for _, input := range []string{"", "a", "\x00", "\xff\x80\x00z", "in"} {
			x := api.Instr{Form: api.FormMem, V: one, A: 1, B: 2}
			m := made(t, input, code(t, high(2, 0xffc8), x, by(always, -2))...)
			ran(t, m, 1)
			for i := range len(input) + 3 {
				m.flags = api.Flags{N: true, Z: true, C: true}
				m.regs[1] = 0xdeadbeef
				o := ran(t, m, 1)
				var b uint32
				if i < len(input) {
					b = uint32(input[i])
				}
				mustEnd(t, "P5.2: Read", o, api.Outcome{End: api.EndFuel, Steps: 1, Read: min(i+1, len(input))})
				if m.Reg(1) != b || m.flags != (api.Flags{Z: b == 0, C: true}) {
					t.Errorf("P5.2: input %q, byte %d: %x, %+v", input, i, m.Reg(1), m.flags)
				}
				ran(t, m, 1)
			}
		}
	}
}

func TestWholeInput(t *testing.T) {
	var b strings.Builder
	for i := range api.MaxInput {
		b.WriteByte(byte(i*7 + i/256))
	}
	copied := code(t, high(2, 0xffc8), load(3, 2, 4), by(1, 3), load(1, 2, 0), store(1, 2, 0), by(always, -5), store(0, 2, -8))
	m := made(t, b.String(), copied...)
	want := api.Outcome{End: api.EndHalt, Out: b.String(), Steps: 1 + 5*api.MaxInput + 3, Read: api.MaxInput}
	mustEnd(t, "P5.2: the input put out", ran(t, m, api.MaxFuel), want)
}

func TestPortState(t *testing.T) {
	for _, one := range []bool{false, true} {
		state := api.Instr{Form: api.FormMem, V: one, A: 1, B: 2, Im: 4}
		m := made(t, "\x00a", code(t, high(2, 0xffc8), state, state, load(3, 2, 0), by(always, -4))...)
		ran(t, m, 1)
		for i, want := range []uint32{1, 1, 0, 0} {
			m.flags = api.Flags{N: true, Z: want == 1, V: true}
			o := ran(t, m, 2)
			mustEnd(t, "P5.2: PortState reads nothing", o, api.Outcome{End: api.EndFuel, Steps: 2, Read: min(i, 2)})
			if m.Reg(1) != want || m.flags != (api.Flags{Z: want == 0, V: true}) {
				t.Errorf("P5.2: PortState behind %d bytes: %d, %+v", i, m.Reg(1), m.flags)
			}
			ran(t, m, 2)
		}
		none := made(t, "", code(t, high(2, 0xffc8), mov(1, 9), state)...)
		if ran(t, none, 3); none.Reg(1) != 0 {
			t.Errorf("P5.2: PortState without an input: %d", none.Reg(1))
		}
	}
}

func TestPutOut(t *testing.T) {
	for _, v := range edges {
		for _, one := range []bool{false, true} {
			x := api.Instr{Form: api.FormMem, U: true, V: one, A: 1, B: 2}
			m := made(t, "in", code(t, high(2, 0xffc8), x, x)...)
			m.regs[1], m.flags = v, api.Flags{Z: true}
			o := ran(t, m, 3)
			mustEnd(t, "P5.2: put out", o, api.Outcome{End: api.EndFuel, Out: string([]byte{byte(v), byte(v)}), Steps: 3})
			if m.Reg(1) != v {
				t.Errorf("P5.2: put out %x: R1 %x", v, m.Reg(1))
			}
		}
	}
}

func TestTooMuchPutOut(t *testing.T) {
	words := code(t, high(2, 0xffc8), mov(1, 0), store(1, 2, 0), im(api.OpAdd, 1, 1, 1), by(always, -3))
	m := made(t, "", words...)
	full := 2 + 3*api.MaxOutput
	o := ran(t, m, full)
	if o.End != api.EndFuel || len(o.Out) != api.MaxOutput || o.Steps != full || m.PC() != 2 {
		t.Fatalf("P5.2: MaxOutput bytes: end %d, %d bytes, %d steps, PC %d", o.End, len(o.Out), o.Steps, m.PC())
	}
	for i := range o.Out {
		if o.Out[i] != byte(i) {
			t.Fatalf("P5.2: byte %d put out is %x", i, o.Out[i])
		}
	}
	before := seen(t, m)
	over := api.Outcome{End: api.EndLong, Out: o.Out, Steps: 1}
	mustEnd(t, "P5.2: one more", ran(t, m, 100), over)
	before.pc, before.end = 3, api.EndLong
	if seen(t, m) != before {
		t.Errorf("P5.2: EndLong changed more than PC: %+v", seen(t, m))
	}
	over.Steps = 0
	mustEnd(t, "P5.2: ever after", ran(t, m, 100), over)
}

// A full output is no hindrance to the other ports.
func TestFullOutput(t *testing.T) {
	for _, x := range []api.Instr{load(1, 2, 0), load(1, 2, 4), store(1, 2, -4), store(1, 2, -8), store(1, 2, 0), bytewise(store(1, 2, 0))} {
		for _, n := range []int{api.MaxOutput - 1, api.MaxOutput} {
			s := model{mem: bytesOf(code(t, x)), out: strings.Repeat("o", n)}
			s.regs[1], s.regs[2] = 70, api.PortData
			got := holdStep(t, "P5.2", s, "in")
			if long := n == api.MaxOutput && x.U && x.Im == 0; long != (got.end == api.EndLong) {
				t.Errorf("P5.2: %+v behind %d bytes: end %d", x, n, got.end)
			}
		}
	}
}

func TestTraps(t *testing.T) {
	for _, c := range []struct {
		v    uint32
		trap int
	}{
		{0, 0}, {1, 1}, {10, 10}, {0x100, 0x100}, {0x12345678, 0x12345678}, {0x7fffffff, 1<<31 - 1},
		{0x80000000, -1 << 31}, {0x80000001, -1<<31 + 1}, {0xffffffff, -1}, {0xfffffff6, -10},
	} {
		for _, one := range []bool{false, true} {
			x := api.Instr{Form: api.FormMem, U: true, V: one, A: 1, B: 2, Im: -4}
			m := made(t, "in", code(t, high(2, 0xffc8), load(3, 2, 0), store(3, 2, 0), x, mov(1, 1))...)
			m.regs[1] = c.v
			want := api.Outcome{End: api.EndTrap, Trap: c.trap, Out: "i", Steps: 4, Read: 1}
			mustEnd(t, "P5.2: trap", ran(t, m, 9), want)
			want.Steps = 0
			mustEnd(t, "P5.2: trap, ever after", ran(t, m, 9), want)
			if m.Reg(1) != c.v || m.PC() != 4 {
				t.Errorf("P5.2: trap %d: R1 %x, PC %d", c.trap, m.Reg(1), m.PC())
			}
		}
	}
}

func TestHalt(t *testing.T) {
	for _, v := range edges {
		for _, one := range []bool{false, true} {
			x := api.Instr{Form: api.FormMem, U: true, V: one, A: 1, B: 2, Im: -8}
			m := made(t, "in", code(t, high(2, 0xffc8), load(3, 2, 0), store(3, 2, 0), x, mov(1, 1))...)
			m.regs[1] = v
			mustEnd(t, "P5.2: halt", ran(t, m, 9), api.Outcome{End: api.EndHalt, Out: "i", Steps: 4, Read: 1})
			mustEnd(t, "P5.2: halt, ever after", ran(t, m, 9), api.Outcome{End: api.EndHalt, Out: "i", Read: 1})
			if m.PC() != 4 {
				t.Errorf("P5.2: halt: PC %d", m.PC())
			}
		}
	}
}
