package cpu

import (
	"math/rand"
	"testing"

	"spinet/api"
	"spinet/risc"
)

const walkWords = 8

// Values that are like to be places in the memory, ports, or edges.
func anyValue(r *rand.Rand) uint32 {
	switch r.Intn(5) {
	case 0:
		return uint32(r.Intn(4*walkWords + 8))
	case 1:
		return uint32(4 * r.Intn(walkWords+1))
	case 2:
		return api.PortHalt - 4 + uint32(r.Intn(24))
	case 3:
		return edges[r.Intn(len(edges))]
	}
	return r.Uint32()
}

func anyInstr(r *rand.Rand) api.Instr {
	for {
		x := api.Instr{Form: r.Intn(4), U: r.Intn(2) == 0, V: r.Intn(2) == 0, A: r.Intn(16)}
		switch {
		case x.Form == api.FormReg:
			x.B, x.C, x.Op = r.Intn(16), r.Intn(16), r.Intn(12)
		case x.Form == api.FormIm:
			x.B, x.Im, x.Op = r.Intn(16), int(anyValue(r)%65536), r.Intn(12)
		case x.Form == api.FormMem:
			x.B, x.Im = r.Intn(16), []int{0, 4, -4, r.Intn(40) - 20, r.Intn(1<<20) - 1<<19}[r.Intn(5)]
		case x.U:
			x.Im = []int{r.Intn(2*walkWords) - walkWords, r.Intn(1<<24) - 1<<23}[r.Intn(8)/7]
		default:
			x.C = r.Intn(16)
		}
		if risc.Good(x) {
			return x
		}
	}
}

func anyModel(t *testing.T, r *rand.Rand) model {
	t.Helper()
	s := model{end: api.EndFuel, h: anyValue(r), flags: allFlags()[r.Intn(16)], pc: r.Intn(walkWords)}
	for n := range s.regs {
		s.regs[n] = anyValue(r)
	}
	var words []uint32
	for range walkWords {
		w := word(t, anyInstr(r))
		if r.Intn(40) == 0 {
			w = r.Uint32()
		}
		words = append(words, w)
	}
	s.mem = bytesOf(words)
	return s
}

func TestAnyStep(t *testing.T) {
	r := rand.New(rand.NewSource(5))
	ends := map[int]int{}
	for range 60000 {
		s := anyModel(t, r)
		input := "input"[:r.Intn(6)]
		s.read = r.Intn(len(input) + 1)
		ends[holdStep(t, "P5.2", s, input).end]++
	}
	for _, end := range []int{api.EndHalt, api.EndTrap, api.EndFuel, api.EndOp, api.EndPlace} {
		if ends[end] == 0 {
			t.Errorf("no step came to the end %d", end)
		}
	}
}

func (s model) run(fuel int, input string) (model, api.Outcome) {
	steps := 0
	for ; steps < fuel && s.end == api.EndFuel; steps++ {
		s = s.step(input)
	}
	return s, api.Outcome{End: s.end, Trap: s.trap, Out: s.out, Steps: steps, Read: s.read}
}

func TestAnyRun(t *testing.T) {
	r := rand.New(rand.NewSource(6))
	for range 4000 {
		s, fuel := anyModel(t, r), r.Intn(40)
		m := machineIn(t, s, "input")
		got := ran(t, m, fuel)
		after, want := s.run(fuel, "input")
		mustEnd(t, "P5.2", got, want)
		if seen(t, m) != after {
			t.Fatalf("P5.2: %d steps of %+v: %+v, want %+v", fuel, s, seen(t, m), after)
		}
	}
}

func TestTwoRunsAreOne(t *testing.T) {
	r := rand.New(rand.NewSource(7))
	for range 3000 {
		s, fuel := anyModel(t, r), r.Intn(30)
		whole := machineIn(t, s, "input")
		want := ran(t, whole, fuel)
		for first := range fuel + 1 {
			m := machineIn(t, s, "input")
			a := ran(t, m, first)
			b := ran(t, m, fuel-first)
			b.Steps += a.Steps
			mustEnd(t, "P5.4", b, want)
			if seen(t, m) != seen(t, whole) {
				t.Fatalf("P5.4: %d and %d steps: %+v, want %+v", first, fuel-first, seen(t, m), seen(t, whole))
			}
		}
	}
}

func TestTwoLongRunsAreOne(t *testing.T) {
	words := code(t, im(api.OpAdd, 1, 1, 1), im(api.OpMul, 2, 1, 7), by(always, -3))
	whole, parts := made(t, "", words...), made(t, "", words...)
	want := ran(t, whole, api.MaxFuel)
	a, b := ran(t, parts, api.MaxFuel-12345), ran(t, parts, 12345)
	b.Steps += a.Steps
	mustEnd(t, "P5.4", b, want)
	if seen(t, parts) != seen(t, whole) {
		t.Errorf("P5.4: %+v, want %+v", seen(t, parts), seen(t, whole))
	}
}

func TestMoreFuel(t *testing.T) {
	r := rand.New(rand.NewSource(8))
	ends := map[int]int{}
	for range 3000 {
		s := anyModel(t, r)
		m := machineIn(t, s, "input")
		want := ran(t, m, 60)
		ends[want.End]++
		if want.End == api.EndFuel {
			continue
		}
		for _, fuel := range []int{want.Steps, want.Steps + 1, 61, 1000, api.MaxFuel} {
			other := machineIn(t, s, "input")
			mustEnd(t, "P5.5", ran(t, other, fuel), want)
			if seen(t, other) != seen(t, m) {
				t.Fatalf("P5.5: fuel %d: %+v, want %+v", fuel, seen(t, other), seen(t, m))
			}
		}
		if o := ran(t, machineIn(t, s, "input"), want.Steps-1); o.End != api.EndFuel {
			t.Errorf("P5.5: one step less: %s", told(o))
		}
	}
	for _, end := range []int{api.EndHalt, api.EndTrap, api.EndOp, api.EndPlace} {
		if ends[end] == 0 {
			t.Errorf("no run came to the end %d", end)
		}
	}
}
