package consts

import (
	"math/big"
	"math/rand"
	"testing"

	"spinet/api"
)

// The tests hold the package against a model of its own: numbers of any size,
// sets as lists of 32 elements that are cut by division, texts walked through
// byte by byte. It shares no shift, no mask and no table with the package.

type members [32]bool

func membersOf(n int) members {
	var l members
	rest := big.NewInt(int64(n))
	for i := range l {
		bit := new(big.Int)
		rest.DivMod(rest, big.NewInt(2), bit)
		l[i] = bit.Sign() != 0
	}
	return l
}

func (l members) number() int {
	n := 0
	for i := len(l) - 1; i >= 0; i-- {
		n *= 2
		if l[i] {
			n++
		}
	}
	return n
}

func (l members) signed() int {
	n := l.number()
	if l[31] {
		n -= 4294967296
	}
	return n
}

func made(f func(i int) bool) members {
	var l members
	for i := range l {
		l[i] = f(i)
	}
	return l
}

func modelFit(n *big.Int) answer {
	if n.Cmp(big.NewInt(-2147483648)) < 0 || n.Cmp(big.NewInt(2147483647)) > 0 {
		return fails(api.ErrRange)
	}
	return is(num(int(n.Int64())))
}

func modelTruth(holds bool) answer {
	if holds {
		return is(truth(1))
	}
	return is(truth(0))
}

func modelOne(op string, v api.Value) answer {
	switch {
	case op == "+" && v.Form == api.FmInt:
		return is(v)
	case op == "-" && v.Form == api.FmInt:
		return modelFit(new(big.Int).Neg(big.NewInt(int64(v.N))))
	case op == "-" && v.Form == api.FmSet:
		l := membersOf(v.N)
		return is(word(made(func(i int) bool { return !l[i] }).number()))
	case op == "~" && v.Form == api.FmBool:
		return is(truth(1 - v.N))
	}
	return fails(api.ErrConst)
}

func modelTwo(op string, a, b api.Value) answer {
	if a.Form == api.FmChar && b.Form == api.FmText && len(b.Text) == 1 {
		b = char(int(b.Text[0]))
	} else if b.Form == api.FmChar && a.Form == api.FmText && len(a.Text) == 1 {
		a = char(int(a.Text[0]))
	}
	if a.Form == api.FmInt && b.Form == api.FmSet && op == "IN" {
		if a.N < 0 || a.N > 31 {
			return fails(api.ErrRange)
		}
		return modelTruth(membersOf(b.N)[a.N])
	}
	if a.Form != b.Form {
		return fails(api.ErrConst)
	}
	switch op {
	case "=", "#", "<", "<=", ">", ">=":
		return modelRelation(op, a, b)
	}
	switch a.Form {
	case api.FmInt:
		return modelInts(op, int64(a.N), int64(b.N))
	case api.FmSet:
		return modelSets(op, membersOf(a.N), membersOf(b.N))
	case api.FmBool:
		if op == "&" {
			return is(truth(a.N * b.N))
		}
		if op == "OR" {
			return is(truth((a.N + b.N + 1) / 2))
		}
	}
	return fails(api.ErrConst)
}

func modelInts(op string, a, b int64) answer {
	x, y, z := big.NewInt(a), big.NewInt(b), new(big.Int)
	switch op {
	case "+":
		return modelFit(z.Add(x, y))
	case "-":
		return modelFit(z.Sub(x, y))
	case "*":
		return modelFit(z.Mul(x, y))
	case "DIV", "MOD":
		if b <= 0 {
			return fails(api.ErrZero)
		}
		if op == "DIV" {
			return modelFit(z.Div(x, y))
		}
		return modelFit(z.Mod(x, y))
	}
	return fails(api.ErrConst)
}

func modelSets(op string, a, b members) answer {
	var in func(i int) bool
	switch op {
	case "+":
		in = func(i int) bool { return a[i] || b[i] }
	case "-":
		in = func(i int) bool { return a[i] && !b[i] }
	case "*":
		in = func(i int) bool { return a[i] && b[i] }
	case "/":
		in = func(i int) bool { return a[i] != b[i] }
	default:
		return fails(api.ErrConst)
	}
	return is(word(made(in).number()))
}

func modelRelation(op string, a, b api.Value) answer {
	below := a.N < b.N || textBelow(a.Text, b.Text)
	above := b.N < a.N || textBelow(b.Text, a.Text)
	switch op {
	case "=":
		return modelTruth(!below && !above)
	case "#":
		return modelTruth(below || above)
	}
	if a.Form == api.FmBool || a.Form == api.FmSet || a.Form == api.FmNil {
		return fails(api.ErrConst)
	}
	return modelTruth(op == "<" && below || op == "<=" && !above || op == ">" && above || op == ">=" && !below)
}

func textBelow(a, b string) bool {
	for len(a) > 0 && len(b) > 0 {
		if a[0] != b[0] {
			return a[0] < b[0]
		}
		a, b = a[1:], b[1:]
	}
	return len(a) == 0 && len(b) > 0
}

func modelCall(name string, l vals) answer {
	if len(l) == 1 {
		return modelCallOfOne(name, l[0])
	}
	if len(l) != 2 || l[0].Form != api.FmInt || l[1].Form != api.FmInt {
		return fails(api.ErrConst)
	}
	k := membersOf(l[1].N).number() % 32
	w := membersOf(l[0].N)
	switch name {
	case "LSL":
		return is(num(made(func(i int) bool { return i >= k && w[i-k] }).signed()))
	case "ASR":
		return is(num(made(func(i int) bool { return w[min(i+k, 31)] }).signed()))
	case "ROR":
		return is(num(made(func(i int) bool { return w[(i+k)%32] }).signed()))
	}
	return fails(api.ErrConst)
}

func modelCallOfOne(name string, v api.Value) answer {
	switch {
	case name == "ABS" && v.Form == api.FmInt:
		return modelFit(new(big.Int).Abs(big.NewInt(int64(v.N))))
	case name == "ODD" && v.Form == api.FmInt:
		return modelTruth(membersOf(v.N)[0])
	case name == "CHR" && v.Form == api.FmInt:
		if v.N < 0 || v.N > 255 {
			return fails(api.ErrRange)
		}
		return is(char(v.N))
	case name == "ORD" && (v.Form == api.FmChar || v.Form == api.FmBool):
		return is(num(v.N))
	case name == "ORD" && v.Form == api.FmSet:
		return is(num(membersOf(v.N).signed()))
	case name == "ORD" && v.Form == api.FmText && len(v.Text) == 1:
		return is(num(int(v.Text[0])))
	}
	return fails(api.ErrConst)
}

func TestAllPairsAgainstTheModel(t *testing.T) { // P12.2, P12.3, P12.4
	for _, op := range known() {
		mustCall(t, op, nil, modelCall(op, nil))
		for _, a := range goodValues() {
			mustOne(t, op, a, modelOne(op, a))
			mustCall(t, op, list(a), modelCall(op, list(a)))
			for _, b := range goodValues() {
				mustTwo(t, op, a, b, modelTwo(op, a, b))
				mustCall(t, op, list(a, b), modelCall(op, list(a, b)))
			}
		}
	}
}

// A number of any size up to 32 bits, so that sums and products fit as often as
// not.
func someInt(r *rand.Rand) int {
	return int(int32(r.Uint32())) / (1 << r.Intn(32))
}

func someText(r *rand.Rand) string {
	const letters = "ab \x80\xff"
	s := ""
	for range r.Intn(4) {
		s += letters[r.Intn(len(letters)):][:1]
	}
	return s
}

func someValue(r *rand.Rand) api.Value {
	switch r.Intn(6) {
	case 0:
		return num(someInt(r))
	case 1:
		return word(int(r.Uint32()))
	case 2:
		return char(r.Intn(256))
	case 3:
		return truth(r.Intn(2))
	case 4:
		return text(someText(r))
	}
	return num(r.Intn(80) - 40)
}

func TestSomeValuesAgainstTheModel(t *testing.T) { // P12.2, P12.3, P12.4
	r := rand.New(rand.NewSource(12))
	all := known()
	for range 60000 {
		a, b, op := someValue(r), someValue(r), all[r.Intn(len(all))]
		if r.Intn(2) == 0 {
			for b.Form != a.Form {
				b = someValue(r)
			}
		}
		mustOne(t, op, a, modelOne(op, a))
		mustTwo(t, op, a, b, modelTwo(op, a, b))
		mustCall(t, op, list(a), modelCall(op, list(a)))
		mustCall(t, op, list(a, b), modelCall(op, list(a, b)))
	}
}
