package check

import (
	"fmt"
	"strings"
	"testing"

	"spinet/api"
)

// operand is an expression, and what it is by the document: a word for its type,
// and whether it is a constant.
type operand struct {
	text, kind string
	fixed      bool
}

// operands are of all kinds. Kinds that begin with ! have no value: their fault
// comes ahead of any other.
func operands() []operand {
	return []operand{
		{"i", "int", false}, {"7", "int", true}, {"c3", "int", true}, {"L.k", "int", true}, {"L.v", "int", false}, {"Fn(1)", "int", false}, {"a[1]", "int", false}, {"r0.f", "int", false}, {"LEN(a)", "int", true}, {"cNeg", "int", true},
		{"b", "bool", false}, {"TRUE", "bool", true}, {"cYes", "bool", true}, {"FnB()", "bool", false},
		{"ch", "char", false}, {"41X", "char", true}, {"cCh", "char", true}, {"t[2]", "char", false}, {"FnC()", "char", false},
		{`"x"`, "one", true}, {"cOne", "one", true}, {"L.one", "one", true},
		{`"xy"`, "text", true}, {"cTwo", "text", true}, {`""`, "text", true}, {"cNone", "text", true},
		{"t", "chars", false}, {"t1", "chars", false}, {"L.t", "chars", false},
		{"s", "set", false}, {"{1, 3}", "set", true}, {"{i}", "set", false}, {"cSet", "set", true}, {"FnS()", "set", false},
		{"NIL", "nil", true}, {"cNil", "nil", true},
		{"p0", "p0", false}, {"p1", "p1", false}, {"p2", "p2", false}, {"pu", "pu", false}, {"FnP()", "p1", false}, {"lp", "lp", false}, {"L.p", "lp", false}, {"le", "le", false}, {"rec.p", "p0", false}, {"r0.p", "p0", false}, {"p0(P1)", "p1", false},
		{"f0", "f0", false}, {"E", "f0", false}, {"L.Go", "f0", false}, {"f1", "f1", false}, {"Fn", "f1", false}, {"L.Fn", "f1", false}, {"L.f", "f1", false}, {"FnB", "fb", false}, {"fb", "fb", false}, {"FnF()", "f0", false},
		{"a", "ints", false}, {"m", "matrix", false}, {"r0", "t0", false}, {"r1", "t1", false}, {"u", "u", false}, {"p0^", "t0", false}, {"L.h", "h", false},
		{"T0", "!name", false}, {"INTEGER", "!name", false}, {"L", "!name", false}, {"ABS", "!name", false}, {"INC", "!name", false}, {"L.R", "!name", false}, {"E()", "!type", false}, {"L.Go()", "!type", false}, {"READ(ch)", "!type", false}, {"zz", "!name", false}, {"L.zz", "!name", false},
	}
}

func has(l, word string) bool {
	return strings.Contains(" "+l+" ", " "+word+" ")
}

// samples are one operand of each kind, constant and not.
func samples() []operand {
	var l []operand
	seen := map[operand]bool{}
	for _, x := range operands() {
		k := operand{kind: x.kind, fixed: x.fixed}
		if !seen[k] {
			l = append(l, x)
		}
		seen[k] = true
	}
	return l
}

// isText is of texts one by one, as the document has them.
func isText(kind string) bool { return has("one text chars", kind) }

func isChar(kind, other string) bool { return kind == "char" || kind == "one" && other == "char" }

// hasExtension tells whether of two pointers one extends the other.
func hasExtension(a, b string) bool {
	chain := func(l string) bool { return has(l, a) && has(l, b) }
	return chain("p0 p1 p2") || chain("pu") || chain("lp le")
}

// binaryKind is what an operation comes to by the document; "" of none.
func binaryKind(op, a, b string) string {
	both := func(kind string) bool { return a == kind && b == kind }
	switch {
	case has("DIV MOD * + -", op) && both("int"):
		return "int"
	case has("* / + -", op) && both("set"):
		return "set"
	case has("& OR", op) && both("bool"):
		return "bool"
	case op == "IN" && a == "int" && b == "set":
		return "bool"
	case has("= # < <= > >=", op) && (both("int") || isChar(a, b) && isChar(b, a) || isText(a) && isText(b)):
		return "bool"
	case has("= #", op) && (both("bool") || both("set") || hasExtension(a, b) || both("f0") || both("f1") || both("fb")):
		return "bool"
	case has("= #", op) && (a == "nil" && nilable(b) || b == "nil" && nilable(a)):
		return "bool"
	}
	return ""
}

func nilable(kind string) bool { return has("nil p0 p1 p2 pu lp le f0 f1 fb", kind) }

// valueOf is a variable of that kind.
func valueOf(kind string) string {
	return map[string]string{"int": "i", "bool": "b", "set": "s", "char": "ch"}[kind]
}

func noValue(kind string) api.Errno {
	switch kind {
	case "!name":
		return api.ErrName
	case "!type":
		return api.ErrType
	}
	return api.OK
}

// P18.1: each operation with each two.
func TestBinary(t *testing.T) {
	lf := libFace(t)
	for _, op := range strings.Fields("= # < <= > >= IN + - OR * / DIV MOD &") {
		for _, x := range samples() {
			for _, y := range samples() {
				if x.kind[0] == '!' && y.kind[0] == '!' && x.kind != y.kind {
					continue
				}
				kind := binaryKind(op, x.kind, y.kind)
				code, expr := api.ErrType, "@"+x.text+" "+op+" "+y.text
				switch {
				case noValue(x.kind) != api.OK:
					code = noValue(x.kind)
				case noValue(y.kind) != api.OK:
					code, expr = noValue(y.kind), x.text+" "+op+" @"+y.text
				case kind != "":
					code = reckoningFault(op, x.text, y.text)
				}
				if code == api.OK {
					expr = expr[1:]
				}
				to := valueOf(kind)
				if to == "" {
					to = "i"
				}
				mustDo(t, code, body(to+" := "+expr), lf)
			}
		}
	}
}

// reckoningFault is of the constants above: those that divide by what is not
// above 0, and elements that no set has.
func reckoningFault(op, x, y string) api.Errno {
	fixed := map[string]int{"7": 7, "c3": 3, "L.k": 7, "LEN(a)": 5, "cNeg": -1}
	_, a := fixed[x]
	n, b := fixed[y]
	if a && b && has("DIV MOD", op) && n <= 0 {
		return api.ErrZero
	}
	if a && op == "IN" && (y == "{1, 3}" || y == "cSet") && fixed[x] < 0 {
		return api.ErrRange
	}
	return api.OK
}

// P18.1: each operand counts as its kind's sample does.
func TestOperands(t *testing.T) {
	for _, x := range operands() {
		for _, op := range []string{"=", "<", "+", "&", "IN"} {
			for _, y := range []string{x.text, "i", "ch", "s", "t", "NIL", "b"} {
				kind := map[string]string{"i": "int", "ch": "char", "s": "set", "t": "chars", "NIL": "nil", "b": "bool", x.text: x.kind}[y]
				if noValue(x.kind) != api.OK {
					mustFault(t, noValue(x.kind), body("i := @"+x.text+" "+op+" "+y), libFace(t))
				} else if want := binaryKind(op, x.kind, kind); want == "" {
					mustFault(t, api.ErrType, body("i := @"+x.text+" "+op+" "+y), libFace(t))
				} else {
					mustDo(t, reckoningFault(op, x.text, y), body(valueOf(want)+" := "+x.text+" "+op+" "+y), libFace(t))
				}
			}
		}
	}
}

// P18.1: an operation is a constant just if both are.
func TestBinaryConstants(t *testing.T) {
	lf := libFace(t)
	for _, op := range strings.Fields("= # < <= > >= IN + - OR * / DIV MOD &") {
		for _, x := range samples() {
			for _, y := range samples() {
				if x.kind[0] == '!' || y.kind[0] == '!' || binaryKind(op, x.kind, y.kind) == "" || reckoningFault(op, x.text, y.text) != api.OK {
					continue
				}
				code, expr := api.ErrConst, "@"+x.text+" "+op+" "+y.text
				if x.fixed && y.fixed {
					code, expr = api.OK, expr[1:]
				}
				mustDo(t, code, decls+procs+"PROCEDURE K; CONST k = "+expr+"; END K; END A.", lf)
			}
		}
	}
}

// P18.1: the signs ahead of each.
func TestUnary(t *testing.T) {
	lf := libFace(t)
	for _, op := range []string{"+", "-", "~"} {
		for _, x := range operands() {
			code, expr := api.ErrType, "@"+op+"("+x.text+")"
			good := op == "~" && x.kind == "bool" || op != "~" && x.kind == "int" || op == "-" && x.kind == "set"
			switch {
			case noValue(x.kind) != api.OK:
				code, expr = noValue(x.kind), op+"(@"+x.text+")"
			case good:
				code, expr = api.OK, expr[1:]
			}
			to := valueOf(x.kind)
			if to == "" {
				to = "i"
			}
			mustDo(t, code, body(to+" := "+expr), lf)
			if good {
				code, expr = api.ErrConst, "@"+expr
				if x.fixed {
					code, expr = api.OK, expr[1:]
				}
				mustDo(t, code, decls+procs+"PROCEDURE K; CONST k = "+expr+"; END K; END A.", lf)
			}
		}
	}
}

// P18.1: the constants' own values, and their errors, behind the types'.
func TestReckoned(t *testing.T) {
	for _, x := range []struct{ expr, want string }{
		{"2 + 3 * 4", "14"}, {"7 DIV 2", "3"}, {"(-7) MOD 4", "1"}, {"(-7) DIV 2", "-4"}, {"- 5", "-5"}, {"+ 5", "5"}, {"7 - 8", "-1"}, {"ABS(-3)", "3"}, {"LSL(1, 4)", "16"}, {"ASR(-8, 1)", "-4"}, {"ROR(2, 1)", "1"}, {`ORD("a")`, "97"}, {"ORD(41X)", "65"}, {"ORD(TRUE)", "1"}, {"ORD({0, 3})", "9"}, {"LEN(t) + LEN(m) + LEN(m[i])", "13"},
	} {
		mustPass(t, decls+"r: ARRAY "+fmt.Sprint("100 + (", x.expr, ")")+" OF CHAR; "+procs+"BEGIN r[100 + ("+x.want+") - 1] := 0X END A.", libFace(t))
		mustFault(t, api.ErrConst, decls+"r: ARRAY "+fmt.Sprint("100 + (", x.expr, ")")+" OF CHAR; "+procs+"BEGIN r[@100 + ("+x.want+")] := 0X END A.", libFace(t))
	}
	for _, x := range []struct {
		expr string
		want int
	}{
		{`"a" = 61X`, 1}, {`"a" # "a"`, 0}, {`"a" < "b"`, 1}, {`"ab" < "b"`, 1}, {`"b" <= 61X`, 0}, {"NIL = NIL", 1}, {"NIL # NIL", 0}, {"{1} = {1, 1}", 1}, {"TRUE # FALSE", 1}, {"3 IN {1 .. 4}", 1}, {"~TRUE OR FALSE", 0}, {"TRUE & ~FALSE", 1}, {"ODD(3)", 1}, {`CHR(97) = "a"`, 1}, {"-{0 .. 30} = {31}", 1}, {"{1, 2} * {2, 3} = {2}", 1}, {"{1, 2} / {2, 3} = {1, 3}", 1}, {"{1, 2} - {2, 3} = {1}", 1},
	} {
		f := mustPass(t, "MODULE A; CONST k* = "+x.expr+"; END A.")
		if want := (api.Value{Form: api.FmBool, N: x.want}); len(f.Objs) != 1 || f.Objs[0].Value != want {
			t.Errorf("P18.1: %s is %v", x.expr, f.Objs)
		}
	}
	eachIn(t, body, []faulty{
		{"i := @2147483647 + 1", api.ErrRange}, {"i := @-2147483647 - 2", api.ErrRange}, {"i := @65536 * 32768", api.ErrRange}, {"i := @-(-2147483647 - 1)", api.ErrRange}, {"i := i + (@1 DIV 0)", api.ErrZero}, {"i := @1 MOD (-1)", api.ErrZero}, {"i := 1 DIV i", 0}, {"i := i DIV 0", 0}, {"i := i MOD (-1)", 0},
		{"b := @32 IN {1}", api.ErrRange}, {"b := (@-1) IN {1}", api.ErrRange}, {"b := 32 IN s", 0}, {"i := @ABS(-2147483647 - 1)", api.ErrRange}, {"ch := @CHR(256)", api.ErrRange}, {"ch := @CHR(-1)", api.ErrRange}, {"ch := CHR(255)", 0},
		{"i := @1 DIV 0 + TRUE", api.ErrZero}, {"i := @1 + TRUE", api.ErrType}, {"i := @TRUE DIV 0", api.ErrType}, {"i := @2147483647 + 1 + i", api.ErrRange}, {"i := 2147483647 + i + 1", 0},
	})
}

// P18.1
func TestSets(t *testing.T) {
	eachIn(t, body, []faulty{
		{"s := {}", 0}, {"s := {0, 31}", 0}, {"s := {5 .. 2}", 0}, {"s := {i, j .. 3, 4}", 0}, {"s := {0 .. 31}", 0}, {"s := {Fn(1) .. LEN(a)}", 0},
		{"s := @{32}", api.ErrRange}, {"s := @{-1}", api.ErrRange}, {"s := @{1, 2, 0 .. 32}", api.ErrRange}, {"s := @{-1 .. 3}", api.ErrRange}, {"s := @{40 .. 3}", api.ErrRange}, {"s := {32, i}", 0}, {"s := {i, 0 .. 32}", 0}, {"s := {-1 .. i}", 0}, {"s := {i .. 99, 1}", 0},
		{"s := {@b}", api.ErrType}, {"s := {1, @ch}", api.ErrType}, {"s := {@s}", api.ErrType}, {"s := {@b .. 1}", api.ErrType}, {"s := {1 .. @b}", api.ErrType}, {`s := {@"x"}`, api.ErrType}, {"s := {@NIL}", api.ErrType}, {"s := {1 .. 2, 3 .. @TRUE}", api.ErrType}, {"s := {99, @TRUE}", api.ErrType},
		{"s := {@INTEGER}", api.ErrName}, {"s := {@L}", api.ErrName}, {"s := {1 .. @ABS}", api.ErrName}, {"s := {@E()}", api.ErrType}, {"s := {i, @zz}", api.ErrName}, {"@i := s", api.ErrType},
	})
	eachIn(t, body, []faulty{{"@i := {}", api.ErrType}, {"@i := {j}", api.ErrType}, {"s := {@z1 .. z2}", api.ErrName}, {"s := {1 .. @z2}", api.ErrName}})
	// What the elements make a constant is one itself.
	f := mustPass(t, "MODULE A; CONST a* = {}; b* = {0, 2 .. 4, 31}; c* = {4 .. 2}; END A.")
	for i, want := range []int{0, 1 | 28 | 1<<31, 0} {
		if f.Objs[i].Value != (api.Value{Form: api.FmSet, N: want}) {
			t.Errorf("P18.1: set %d is %v", i, f.Objs[i].Value)
		}
	}
	eachIn(t, func(s string) string { return decls + procs + "PROCEDURE K; CONST k = " + s + "; END K; END A." }, []faulty{{"@{i}", api.ErrConst}, {"@{1, i}", api.ErrConst}, {"@{i .. 2}", api.ErrConst}, {"@{2 .. i}", api.ErrConst}, {"{LEN(a) .. 7}", 0}})
}
