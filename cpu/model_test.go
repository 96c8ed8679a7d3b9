package cpu

import (
	"encoding/binary"
	"fmt"
	"testing"

	"spinet/alu"
	"spinet/api"
	"spinet/risc"
)

// The tests hold the package against a machine that is a plain value: its
// memory is a text of bytes, fields are got out of words by division, and
// a step answers another machine.

type model struct {
	regs      [16]uint32
	h         uint32
	flags     api.Flags
	pc        int
	mem       string
	read      int
	out       string
	end, trap int
}

func bytesOf(words []uint32) string {
	var l []byte
	for _, w := range words {
		l = binary.LittleEndian.AppendUint32(l, w)
	}
	return string(l)
}

func (s model) words() []uint32 {
	var l []uint32
	for i := 0; i < len(s.mem); i += 4 {
		l = append(l, binary.LittleEndian.Uint32([]byte(s.mem[i:i+4])))
	}
	return l
}

func (s model) String() string {
	return fmt.Sprintf("{regs %x h %x flags %+v pc %d words %x read %d out %q end %d trap %d}",
		s.regs, s.h, s.flags, s.pc, s.words(), s.read, s.out, s.end, s.trap)
}

// A machine's whole state; what isn't told by calls is looked up inside.
func seen(t *testing.T, m *Machine) model {
	t.Helper()
	words, ok := m.Memory().Words(0, m.Memory().Size())
	if !ok {
		t.Fatal("no words")
	}
	return model{m.regs, m.h, m.flags, m.pc, bytesOf(words), m.read, string(m.out), m.end, m.trap}
}

func machineIn(t *testing.T, s model, input string) *Machine {
	t.Helper()
	m, err := New(s.words(), 0, input)
	if err != api.OK {
		t.Fatalf("P5.1: New: %v", err)
	}
	m.regs, m.h, m.flags, m.pc, m.read, m.out = s.regs, s.h, s.flags, s.pc, s.read, []byte(s.out)
	return m
}

func field(w uint32, from, to int) int {
	return int(uint64(w) >> to % (1 << (from - to + 1)))
}

func signedField(w uint32, n int) int {
	v := field(w, n-1, 0)
	if v >= 1<<(n-1) {
		v -= 1 << n
	}
	return v
}

// Another machine, one step on; an input's byte is told by its place.
func (s model) step(input string) model {
	if s.pc < 0 || 4*s.pc >= len(s.mem) {
		s.end = api.EndPlace
		return s
	}
	w := s.words()[s.pc]
	if _, err := risc.Decode(w); err != api.OK {
		s.end = api.EndOp
		return s
	}
	s.pc++
	u, v, a, b := field(w, 29, 29) == 1, field(w, 28, 28) == 1, field(w, 27, 24), field(w, 23, 20)
	op, c := field(w, 19, 16), field(w, 3, 0)
	switch field(w, 31, 30) {
	case 0:
		if op == 0 && u && v {
			return s.becomes(a, s.flagWord())
		}
		return s.reckoned(op, u, a, b, s.regs[c])
	case 1:
		n := uint32(field(w, 15, 0))
		if op == 0 && u {
			return s.becomes(a, n*65536)
		}
		if v {
			n += 0xffff0000
		}
		return s.reckoned(op, u, a, b, n)
	case 2:
		place := uint32((int64(s.regs[b]) + int64(signedField(w, 20)) + 1<<32) % (1 << 32))
		if u {
			return s.stored(place, s.regs[a], v)
		}
		return s.loaded(place, a, v, input)
	}
	return s.jumped(w, u, v, a, c)
}

func (s model) flagWord() uint32 {
	var w uint32
	for _, set := range []bool{s.flags.N, s.flags.Z, s.flags.C, s.flags.V} {
		w *= 2
		if set {
			w++
		}
	}
	return w << 28
}

func (s model) becomes(a int, r uint32) model {
	s.regs[a], s.flags.N, s.flags.Z = r, r >= 1<<31, r == 0
	return s
}

func (s model) reckoned(op int, u bool, a, b int, n uint32) model {
	r, h, f, ok := alu.Do(op, u, s.regs[b], n, s.h, s.flags)
	if !ok {
		panic("an instruction that alu does not know")
	}
	s.regs[a], s.h, s.flags = r, h, f
	return s
}

func (s model) loaded(place uint32, a int, one bool, input string) model {
	size := uint64(len(s.mem))
	switch {
	case place == 0xffffffc8 && s.read == len(input):
		return s.becomes(a, 0)
	case place == 0xffffffc8:
		s.read++
		return s.becomes(a, uint32(input[s.read-1]))
	case place == 0xffffffcc && s.read == len(input):
		return s.becomes(a, 0)
	case place == 0xffffffcc:
		return s.becomes(a, 1)
	case one && uint64(place) < size:
		return s.becomes(a, uint32(s.mem[place]))
	case !one && uint64(place) < size && place%4 == 0:
		return s.becomes(a, s.words()[place/4])
	}
	s.end = api.EndPlace
	return s
}

func (s model) stored(place, v uint32, one bool) model {
	size, l := uint64(len(s.mem)), []byte(s.mem)
	switch {
	case place == 0xffffffc0:
		s.end = api.EndHalt
	case place == 0xffffffc4:
		s.end, s.trap = api.EndTrap, int(int32(v))
	case place == 0xffffffc8 && len(s.out) == 4096:
		s.end = api.EndLong
	case place == 0xffffffc8:
		s.out += string([]byte{byte(v)})
	case one && uint64(place) < size:
		l[place] = byte(v)
	case !one && uint64(place) < size && place%4 == 0:
		binary.LittleEndian.PutUint32(l[place:], v)
	default:
		s.end = api.EndPlace
	}
	s.mem = string(l)
	return s
}

func holds(cond int, f api.Flags) bool {
	less := f.N != f.V
	return [8]bool{f.N, f.Z, f.C, f.V, f.C || f.Z, less, less || f.Z, true}[cond%8] == (cond < 8)
}

func (s model) jumped(w uint32, u, v bool, cond, c int) model {
	if !holds(cond, s.flags) {
		return s
	}
	on, to := s.pc, int(s.regs[c]>>2)
	if u {
		to = (s.pc + signedField(w, 24) + 1<<30) % (1 << 30)
	}
	s.pc = to
	if v {
		s.regs[15] = uint32(4 * on)
	}
	return s
}
