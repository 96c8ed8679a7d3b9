package cpu

import (
	"spinet/alu"
	"spinet/api"
	"spinet/bits"
)

const (
	halfBits   = 16
	upperHalf  = 0xffff0000
	lowestFlag = 28 // V's bit, where the flags are a word
	placeBits  = 30 // of a word's place, as 32 are of a byte's
)

func (m *Machine) reckon(x api.Instr) {
	if x.Op == api.OpMov && x.U && x.Form == api.FormIm {
		m.setBy(x.A, bits.Lsl(bits.Word(x.Im), halfBits))
		return
	}
	if x.Op == api.OpMov && x.U && x.V {
		m.setBy(x.A, flagBits(m.flags))
		return
	}
	// An instruction that was decoded has no mark that alu refuses.
	r, h, f, _ := alu.Do(x.Op, x.U, m.regs[x.B], m.operand(x), m.h, m.flags)
	m.regs[x.A], m.h, m.flags = r, h, f
}

func (m *Machine) operand(x api.Instr) uint32 {
	if x.Form == api.FormReg {
		return m.regs[x.C]
	}
	if x.V {
		return upperHalf | bits.Word(x.Im)
	}
	return bits.Word(x.Im)
}

func flagBits(f api.Flags) uint32 {
	var w uint32
	for i, set := range [...]bool{f.V, f.C, f.Z, f.N} {
		if set {
			w = bits.Put(w, lowestFlag+i, 1, 1)
		}
	}
	return w
}

func (m *Machine) access(x api.Instr) {
	place := m.regs[x.B] + bits.Word(x.Im)
	if x.U {
		m.store(place, m.regs[x.A], x.V)
		return
	}
	r, there := m.load(place, x.V)
	if !there {
		m.end = api.EndPlace
		return
	}
	m.setBy(x.A, r)
}

// No memory reaches up to the ports: one that is not to be loaded, or not to
// be stored to, is a place that is not there.
func (m *Machine) load(place uint32, single bool) (uint32, bool) {
	switch {
	case place == api.PortData:
		return m.next(), true
	case place == api.PortState:
		return m.waiting(), true
	case single:
		return m.mem.Byte(place)
	}
	return m.mem.Load(place)
}

func (m *Machine) store(place, v uint32, single bool) {
	there := true
	switch {
	case place == api.PortData:
		m.put(byte(v))
	case place == api.PortTrap:
		m.end, m.trap = api.EndTrap, bits.Signed(v)
	case place == api.PortHalt:
		m.end = api.EndHalt
	case single:
		there = m.mem.PutByte(place, v)
	default:
		there = m.mem.Store(place, v)
	}
	if !there {
		m.end = api.EndPlace
	}
}

func (m *Machine) waiting() uint32 {
	if m.read < len(m.input) {
		return 1
	}
	return 0
}

func (m *Machine) next() uint32 {
	if m.read >= len(m.input) {
		return 0
	}
	m.read++
	return uint32(m.input[m.read-1])
}

func (m *Machine) put(b byte) {
	if len(m.out) >= api.MaxOutput {
		m.end = api.EndLong
		return
	}
	m.out = append(m.out, b)
}

func (m *Machine) jump(x api.Instr) {
	if !alu.Holds(x.A, m.flags) {
		return
	}
	back := m.pc
	m.pc = m.target(x)
	// Behind the target: register 15 may be what it is taken from.
	if x.V {
		m.regs[link] = bits.Word(back * wordBytes)
	}
}

func (m *Machine) target(x api.Instr) int {
	if x.U {
		return int(bits.Get(bits.Word(m.pc+x.Im), 0, placeBits))
	}
	return int(m.regs[x.C] / wordBytes)
}
