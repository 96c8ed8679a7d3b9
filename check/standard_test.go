package check

import (
	"strings"
	"testing"

	"spinet/api"
)

// answers are the kinds that standard functions take, and what they come to.
type answers struct {
	name  string
	takes []string
	kind  string
}

func functions() []answers {
	return []answers{
		{"ABS", []string{"int"}, "int"}, {"ODD", []string{"int"}, "bool"}, {"CHR", []string{"int"}, "char"}, {"ORD", []string{"char bool set one"}, "int"},
		{"LSL", []string{"int", "int"}, "int"}, {"ASR", []string{"int", "int"}, "int"}, {"ROR", []string{"int", "int"}, "int"},
	}
}

// P18.1: each function with each operand at each place.
func TestFunctions(t *testing.T) {
	lf := libFace(t)
	for _, f := range functions() {
		for at, kinds := range f.takes {
			for _, x := range operands() {
				args := make([]string, len(f.takes))
				for i := range args {
					args[i] = "i"
				}
				code := noValue(x.kind)
				if code == api.OK && !has(kinds, x.kind) {
					code = api.ErrType
				}
				whole := ""
				if code == api.OK && f.name == "CHR" && x.text == "cNeg" {
					code, whole = api.ErrRange, "@"
				}
				args[at] = x.text
				if code != api.OK && whole == "" {
					args[at] = "@" + x.text
				}
				call := f.name + "(" + strings.Join(args, ", ") + ")"
				mustDo(t, code, body(valueOf(f.kind)+" := "+whole+call), lf)
				if code != api.OK {
					continue
				}
				mustFault(t, api.ErrType, body("@"+call), lf)
				if x.fixed && len(args) == 1 {
					mustPass(t, decls+procs+"PROCEDURE K; CONST k = "+call+"; END K; END A.", lf)
				} else {
					mustFault(t, api.ErrConst, decls+procs+"PROCEDURE K; CONST k = @"+call+"; END K; END A.", lf)
				}
			}
		}
		for n := range 4 {
			call := f.name + "(" + strings.Join(strings.Fields(strings.Repeat("zz ", n)), ", ") + ")"
			if n != len(f.takes) {
				mustFault(t, api.ErrCount, body(valueOf(f.kind)+" := @"+call), lf)
				mustFault(t, api.ErrCount, body("@"+call), lf)
			} else {
				mustFault(t, api.ErrName, body(valueOf(f.kind)+" := "+strings.Replace(call, "zz", "@zz", 1)), lf)
			}
		}
	}
}

// P18.1
func TestLenAndEot(t *testing.T) {
	eachIn(t, body, []faulty{
		{"i := LEN(a) + LEN(t) + LEN(m) + LEN(m[i]) + LEN(L.t) + LEN(rec.a) + LEN(ar) + LEN(L.h.l)", 0}, {"i := LEN(@i)", api.ErrType}, {"i := LEN(@\"abc\")", api.ErrType}, {"i := LEN(@cTwo)", api.ErrType}, {"i := LEN(@r0)", api.ErrType}, {"i := LEN(@p0)", api.ErrType}, {"i := LEN(@A5)", api.ErrType}, {"i := LEN(@zz)", api.ErrName}, {"i := LEN(@m[0, 0])", api.ErrType}, {"i := LEN(m[@2])", api.ErrConst}, {"i := @LEN()", api.ErrCount}, {"i := @LEN(a, 1)", api.ErrCount}, {"i := @LEN", api.ErrName}, {"@LEN(a)", api.ErrType}, {"@LEN", api.ErrType}, {"@b := LEN(a)", api.ErrType}, {"i := LEN(@E)", api.ErrType}, {"i := LEN(@E())", api.ErrType},
		{"b := EOT(); b := ~EOT() OR EOT(); IF EOT() THEN END", 0}, {"b := @EOT(1)", api.ErrCount}, {"b := @EOT(zz)", api.ErrCount}, {"b := @EOT", api.ErrName}, {"@EOT()", api.ErrType}, {"@EOT", api.ErrType}, {"@i := EOT()", api.ErrType},
	})
	eachIn(t, func(s string) string {
		return decls + procs + "PROCEDURE K(o: ARRAY OF CHAR); CONST k = " + s + "; END K; END A."
	}, []faulty{{"LEN(a)", 0}, {"LEN(m[i]) + LEN(m)", 0}, {"@LEN(o)", api.ErrConst}, {"@EOT()", api.ErrConst}, {"@EOT", api.ErrConst}, {"@LEN", api.ErrConst}, {"@WRITE(ch)", api.ErrConst}, {"WRITE(@i)", api.ErrType}})
}

// P18.1: what is written to: each proper procedure with each operand.
func TestTargets(t *testing.T) {
	lf := libFace(t)
	targets := []given{
		{"i", "int var"}, {"a[1]", "int var"}, {"r0.f", "int var"}, {"p0.f", "int var"}, {"L.v", "int var read"}, {"L.h.x.a", "int var"}, {"5", "int"}, {"c3", "int"}, {"Fn(1)", "int"}, {"i + 1", "int"},
		{"s", "set var"}, {"L.s", "set var read"}, {"{1}", "set"}, {"cSet", "set"}, {"ch", "char var"}, {"t[1]", "char var"}, {"L.c", "char var read"}, {"1X", "char"}, {`"x"`, "text"}, {"b", "bool var"}, {"L.b", "bool var read"}, {"TRUE", "bool"},
		{"p0", "p0 var"}, {"lp", "lp var"}, {"L.p", "lp var read"}, {"L.h.x", "lp var read"}, {"NIL", "nil"}, {"FnP()", "p1"}, {"p0(P1)", "p1 var"}, {"p0^", "t0 var"}, {"r0", "t0 var"}, {"a", "A5 var"}, {"f0", "f0 var"}, {"E", "f0"}, {"L.e", "le var read"},
		{"E()", "!type"}, {"INTEGER", "!name"}, {"L", "!name"}, {"ABS", "!name"}, {"zz", "!gone"},
	}
	for _, x := range []struct{ name, fits, rest string }{
		{"INC", "int", ""}, {"DEC", "int", ""}, {"INC", "int", ", 2"}, {"DEC", "int", ", i"}, {"INCL", "set", ", 1"}, {"EXCL", "set", ", i"}, {"NEW", "p0 lp p1", ""}, {"READ", "char", ""},
	} {
		for _, y := range targets {
			code := handedFault(x.fits, true, strings.Fields(y.kind))
			mustDo(t, code, body(x.name+"("+atFault(code)+y.text+x.rest+")"), lf)
			// Asked ahead of what stands behind it.
			if code != api.OK && x.rest != "" {
				mustFault(t, code, body(x.name+"(@"+y.text+", zz)"), lf)
			}
		}
	}
}

// P18.1: what proper procedures take beside.
func TestTaken(t *testing.T) {
	lf := libFace(t)
	for _, x := range []struct{ head, fits string }{
		{"INC(i, ", "int"}, {"DEC(i, ", "int"}, {"INCL(s, ", "int"}, {"EXCL(s, ", "int"}, {"ASSERT(", "bool"}, {"WRITE(", "char one"},
	} {
		for _, y := range operands() {
			code := noValue(y.kind)
			if code == api.OK && !has(x.fits, y.kind) {
				code = api.ErrType
			}
			mustDo(t, code, body(x.head+atFault(code)+y.text+")"), lf)
		}
	}
	eachIn(t, body, []faulty{
		{"@INC()", api.ErrCount}, {"@INC(i, 1, 2)", api.ErrCount}, {"@INC(zz, zz, zz)", api.ErrCount}, {"@DEC()", api.ErrCount}, {"@DEC(i, 1, 2)", api.ErrCount}, {"@INCL(s)", api.ErrCount}, {"@INCL()", api.ErrCount}, {"@INCL(s, 1, 2)", api.ErrCount}, {"@EXCL(s)", api.ErrCount}, {"@EXCL(s, 1, 2)", api.ErrCount}, {"@NEW()", api.ErrCount}, {"@NEW(p0, p0)", api.ErrCount}, {"@ASSERT()", api.ErrCount}, {"@ASSERT(b, 1)", api.ErrCount}, {"@READ()", api.ErrCount}, {"@READ(ch, ch)", api.ErrCount}, {"@WRITE()", api.ErrCount}, {"@WRITE(ch, ch)", api.ErrCount},
		// A proper one in an expression, behind its own faults.
		{"i := @INC(i)", api.ErrType}, {"i := 1 + @DEC(i)", api.ErrType}, {"s := {@INCL(s, 1)}", api.ErrType}, {"i := @EXCL(s, 1)", api.ErrType}, {"i := @NEW(p0)", api.ErrType}, {"i := @ASSERT(b)", api.ErrType}, {"ch := @READ(ch)", api.ErrType}, {"IF @WRITE(ch) THEN END", api.ErrType}, {"i := INC(@zz)", api.ErrName}, {"i := @INC()", api.ErrCount}, {"i := INC(@b)", api.ErrType}, {"i := INC(@5)", api.ErrVar}, {"@INC(i)(1)", api.ErrType}, {"@INC(i).f := 1", api.ErrType}, {"@INC(i) := 1", api.ErrVar}, {"ABS(@zz)", api.ErrName},
		{"@INC", api.ErrType}, {"@WRITE", api.ErrType}, {"i := @INC", api.ErrName}, {"@INC := 1", api.ErrVar},
		{"INCL(s, 99); EXCL(s, -1); INC(i, -5); ASSERT(TRUE); ASSERT(FALSE); WRITE(0X); WRITE(cOne)", 0},
	})
}
