package asm

import "spinet/api"

var opNames = [...]string{
	"MOV", "LSL", "ASR", "ROR", "AND", "ANN", "IOR", "XOR", "ADD", "SUB", "MUL", "DIV",
}

var condNames = [...]string{
	"MI", "EQ", "CS", "VS", "LS", "LT", "LE", "T", "PL", "NE", "CC", "VC", "HI", "GE", "GT", "F",
}

const nameCount = 4 * (1 + 2*len(opNames) + len(condNames))

// kind is what an instruction's name hangs on; a jump's op is its condition.
type kind struct {
	form, op int
	u, v     bool
}

// spelling is a name, and whether the last operand is a register: the name
// alone doesn't tell FormReg from FormIm, nor a jump's two sorts.
type spelling struct {
	name     string
	register bool
}

func names() map[kind]spelling {
	m := make(map[kind]spelling, nameCount)
	eachName(func(k kind, name string) { m[k] = k.spelt(name) })
	return m
}

func kinds() map[spelling]kind {
	m := make(map[spelling]kind, nameCount)
	eachName(func(k kind, name string) { m[k.spelt(name)] = k })
	return m
}

func (k kind) spelt(name string) spelling {
	return spelling{name: name, register: k.endsInRegister()}
}

// Marks that an operation can't have get names too: which it can have is
// risc's to say.
func eachName(tell func(k kind, name string)) {
	for marks := range 4 {
		u, v := marks&1 != 0, marks&2 != 0
		tell(kind{form: api.FormMem, u: u, v: v}, memName(u, v))
		for op, name := range opNames {
			name += markText(u, v)
			tell(kind{form: api.FormReg, op: op, u: u, v: v}, name)
			tell(kind{form: api.FormIm, op: op, u: u, v: v}, name)
		}
		for cond, name := range condNames {
			tell(kind{form: api.FormJump, op: cond, u: u, v: v}, jumpName(v)+name)
		}
	}
}

func markText(u, v bool) string {
	text := ""
	if u {
		text += "'"
	}
	if v {
		text += "\""
	}
	return text
}

func memName(u, v bool) string {
	name := "LD"
	if u {
		name = "ST"
	}
	if v {
		return name + "B"
	}
	return name + "R"
}

func jumpName(v bool) string {
	if v {
		return "BL."
	}
	return "B."
}

func kindOf(x api.Instr) kind {
	k := kind{form: x.Form, op: x.Op, u: x.U, v: x.V}
	if x.Form == api.FormJump {
		k.op = x.A
	}
	return k
}

func (k kind) endsInRegister() bool {
	return k.form == api.FormReg || k.form == api.FormJump && !k.u
}

func (k kind) with(n [3]int) api.Instr {
	x := api.Instr{Form: k.form, U: k.u, V: k.v}
	last := n[2]
	if k.form == api.FormJump {
		x.A, last = k.op, n[0]
	} else {
		x.Op, x.A, x.B = k.op, n[0], n[1]
	}
	if k.endsInRegister() {
		x.C = last
	} else {
		x.Im = last
	}
	return x
}
