package check

import (
	"fmt"
	"strings"
	"testing"

	"spinet/api"
)

// P18.1: each value with each variable that it is assigned to.
func TestAssignments(t *testing.T) {
	lf := libFace(t)
	for _, to := range []struct{ text, takes string }{
		{"i", "int"}, {"a[1]", "int"}, {"r0.f", "int"}, {"L.h.x.a", "int"}, {"b", "bool"}, {"ch", "char one"}, {"t[1]", "char one"}, {"s", "set"},
		{"p0", "p0 p1 p2 nil"}, {"p1", "p1 p2 nil"}, {"p2", "p2 nil"}, {"pu", "pu nil"}, {"lp", "lp le nil"}, {"le", "le nil"}, {"p0(P1)", "p1 p2 nil"}, {"rec.p", "p0 p1 p2 nil"},
		{"f0", "f0 nil"}, {"f1", "f1 nil"}, {"fb", "fb nil"},
		{"a", "ints"}, {"m", "matrix"}, {"r0", "t0 t1"}, {"r1", "t1"}, {"u", "u"}, {"p0^", "t0 t1"}, {"p1^", "t1"}, {"ar[0]", "t0 t1"},
	} {
		for _, x := range operands() {
			switch code := noValue(x.kind); {
			case code != api.OK:
				mustFault(t, code, body(to.text+" := @"+x.text), lf)
			case has(to.takes, x.kind):
				mustPass(t, body(to.text+" := "+x.text), lf)
			default:
				mustFault(t, api.ErrType, body("@"+to.text+" := "+x.text), lf)
			}
		}
	}
	eachIn(t, body, []faulty{
		{`t := "1234567"`, 0}, {`@t := "12345678"`, api.ErrType}, {`@t := "123456789"`, api.ErrType}, {`t := ""`, 0}, {`t := "a"`, 0}, {"t := cOne; t := cTwo; t := cNone", 0}, {`t1 := ""`, 0}, {`@t1 := "a"`, api.ErrType}, {"@t1 := t", api.ErrType}, {`@a := "a"`, api.ErrType}, {`@ch := "ab"`, api.ErrType}, {`@ch := ""`, api.ErrType}, {"@t := 41X", api.ErrType}, {"@t := ch", api.ErrType}, {"@ch := t", api.ErrType}, {"ch := t[0]", 0}, {"t := t", 0},
		{"@c3 := 1", api.ErrVar},
	})
	eachIn(t, body, []faulty{
		{"@E := E", api.ErrVar}, {"@Fn(1) := 1", api.ErrVar}, {"@E() := 1", api.ErrVar}, {"@L.k := 1", api.ErrVar}, {"@FnP() := NIL", api.ErrVar}, {"FnP().f := 1", 0}, {"FnP()^ := r1", 0}, {"@LEN(a) := 1", api.ErrVar}, {"@L.zz := 1", api.ErrName},
		// The variable, the value, whether it is read only, the types.
		{"@c3 := zz", api.ErrVar}, {"@c3 := TRUE", api.ErrVar}, {"@zz := zy", api.ErrName}, {"L.v := @zz", api.ErrName}, {"L.v := @L", api.ErrName}, {"@L.v := TRUE", api.ErrVar}, {"L.v := @E()", api.ErrType}, {"i := @zz + TRUE", api.ErrName}, {"a[@b] := zz", api.ErrType},
	})
}

// P18.1: calls as statements.
func TestCallStatements(t *testing.T) {
	eachIn(t, body, []faulty{
		{"E; E(); f0; f0(); rec.f; rec.f(); L.Go; L.Go(); FnF()(); One(1)", 0},
		{"@Fn", api.ErrType}, {"@Fn(1)", api.ErrType}, {"@One", api.ErrType}, {"@FnB", api.ErrType}, {"@FnB()", api.ErrType}, {"@f1", api.ErrType}, {"@fb", api.ErrType}, {"@FnF()", api.ErrType}, {"@FnF", api.ErrType}, {"@L.Fn", api.ErrType}, {"@L.G", api.ErrType}, {"@i", api.ErrType}, {"@r0", api.ErrType}, {"@a[0]", api.ErrType}, {"@p0^", api.ErrType}, {"@p0(P1)", api.ErrType}, {"@c3", api.ErrType}, {"@cNil", api.ErrType}, {"@T0", api.ErrType}, {"@F0", api.ErrType}, {"@L", api.ErrType}, {"@zz", api.ErrName}, {"@zz()", api.ErrName}, {"@L.zz", api.ErrName}, {"@i()", api.ErrType}, {"@T0()", api.ErrType}, {"@INTEGER", api.ErrType}, {"@INTEGER(1)", api.ErrType}, {"@ABS", api.ErrType}, {"@READ", api.ErrType}, {"Fn(@zz)", api.ErrName}, {"@fb()", api.ErrType}, {"@p0.p.p", api.ErrType},
	})
}

// P18.1: conditions.
func TestConditions(t *testing.T) {
	lf := libFace(t)
	for _, frame := range []string{"IF % THEN END", "IF b THEN ELSIF % THEN END", "IF b THEN ELSIF b THEN ELSIF % THEN ELSE END", "WHILE % DO END", "WHILE b DO ELSIF % DO END", "REPEAT UNTIL %"} {
		for _, x := range operands() {
			code := noValue(x.kind)
			if code == api.OK && x.kind != "bool" {
				code = api.ErrType
			}
			mustDo(t, code, body(strings.Replace(frame, "%", atFault(code)+x.text, 1)), lf)
		}
	}
	eachIn(t, body, []faulty{
		{"IF b THEN i := 1 ELSIF i = 2 THEN E ELSE f0 END; WHILE b DO E ELSIF i < 3 DO E END; REPEAT E UNTIL b", 0},
		// In the order of the text.
		{"IF b THEN @i := b ELSIF i THEN END", api.ErrType}, {"IF @i THEN zz END", api.ErrType}, {"IF b THEN ELSIF @i THEN zz ELSE zy END", api.ErrType}, {"IF b THEN ELSE @zy END", api.ErrName}, {"IF b THEN ELSIF b THEN @zz ELSE zy END", api.ErrName}, {"WHILE b DO @zz ELSIF i DO END", api.ErrName}, {"WHILE b DO ELSIF @i DO zz END", api.ErrType}, {"WHILE @i DO zz END", api.ErrType}, {"REPEAT @zz UNTIL i", api.ErrName}, {"REPEAT E UNTIL @i; zz", api.ErrType}, {"@zz; IF i THEN END", api.ErrName}, {"IF b THEN IF b THEN IF @i THEN END END END", api.ErrType},
	})
}

// P18.1
func TestFor(t *testing.T) {
	lf := libFace(t)
	for _, x := range operands() {
		code := noValue(x.kind)
		if code == api.OK && x.kind != "int" {
			code = api.ErrType
		}
		mustDo(t, code, body("FOR i := "+atFault(code)+x.text+" TO 2 DO END"), lf)
		mustDo(t, code, body("FOR i := 1 TO "+atFault(code)+x.text+" DO END"), lf)
		by := api.OK
		switch {
		case noValue(x.kind) == api.ErrName && strings.Contains(x.text, "zz"):
			by = api.ErrName
		case x.kind != "int" || !x.fixed:
			by = api.ErrConst
		}
		mustDo(t, by, body("FOR i := 1 TO 2 BY "+atFault(by)+x.text+" DO END"), lf)
	}
	eachIn(t, body, []faulty{
		{"FOR i := 1 TO j DO E; i := 3; FOR i := 1 TO 2 DO END END; FOR j := i TO 1 BY -2 DO END; FOR i := 0 TO 1 BY 2147483647 DO END", 0}, {"FOR i := 1 TO 2 BY @0 DO END", api.ErrConst}, {"FOR i := 1 TO 2 BY @1 - 1 DO END", api.ErrConst}, {"FOR i := 1 TO 2 BY @j DO END", api.ErrConst}, {"FOR i := 1 TO 2 BY @TRUE DO END", api.ErrConst}, {"FOR i := 1 TO 2 BY @1 DIV 0 DO END", api.ErrZero},
		{"@FOR zz := 1 TO 2 DO END", api.ErrName}, {"@FOR b := 1 TO 2 DO END", api.ErrVar}, {"@FOR ch := 1 TO 2 DO END", api.ErrVar}, {"@FOR c3 := 1 TO 2 DO END", api.ErrVar}, {"@FOR L := 1 TO 2 DO END", api.ErrVar}, {"@FOR INTEGER := 1 TO 2 DO END", api.ErrVar}, {"@FOR Num := 1 TO 2 DO END", api.ErrVar}, {"@FOR Fn := 1 TO 2 DO END", api.ErrVar}, {"@FOR ABS := 1 TO 2 DO END", api.ErrVar}, {"@FOR r0 := 1 TO 2 DO END", api.ErrVar},
		{"@FOR zz := zy TO 2 DO END", api.ErrName}, {"@FOR b := zy TO 2 DO END", api.ErrVar}, {"FOR i := @b TO zz DO END", api.ErrType}, {"FOR i := @zz TO b DO END", api.ErrName}, {"FOR i := 1 TO @b BY 0 DO END", api.ErrType}, {"FOR i := 1 TO 2 BY @0 DO zz END", api.ErrConst}, {"FOR i := 1 TO 2 DO @zz END", api.ErrName}, {"FOR i := 1 TO 2 DO @i := b END", api.ErrType},
	})
}

// P18.1: labels.
func TestCases(t *testing.T) {
	lf := libFace(t)
	for _, x := range operands() {
		code := noValue(x.kind)
		if code == api.OK && x.kind != "int" && x.kind != "char" {
			code = api.ErrType
		}
		mustDo(t, code, body("CASE "+atFault(code)+x.text+" OF END"), lf)
		for _, form := range []string{"int", "char"} {
			label := api.OK
			switch {
			case noValue(x.kind) == api.ErrName && strings.Contains(x.text, "zz"):
				label = api.ErrName
			case !x.fixed || x.kind != form && !(x.kind == "one" && form == "char"):
				label = api.ErrConst
			}
			low, high := "-9", "99"
			if form == "char" {
				low, high = "0X", "0FFX"
			}
			mustDo(t, label, body("CASE "+valueOf(form)+" OF "+atFault(label)+x.text+": END"), lf)
			mustDo(t, label, body("CASE "+valueOf(form)+" OF "+atFault(label)+x.text+" .. "+high+": END"), lf)
			mustDo(t, label, body("CASE "+valueOf(form)+" OF "+low+" .. "+atFault(label)+x.text+": END"), lf)
		}
	}
	eachIn(t, body, []faulty{
		{"CASE i OF END", 0}, {"CASE i OF | | END", 0}, {"CASE i OF 1, 3 .. 5: E | -7: i := 2 | | 2: CASE i OF 1 .. 3: END END", 0}, {"CASE ch OF \"a\" .. \"c\", 0X: E | 0FFX: | cOne: END", 0}, {"CASE i OF 7 .. 7: | 8: END", 0}, {"CASE i OF c3: | c3 + 1: END", 0}, {"CASE i OF -2147483647 - 1: | 2147483647: END", 0},
		{"CASE i OF 1, @1: END", api.ErrLabel}, {"CASE i OF 1: | @1: END", api.ErrLabel}, {"CASE i OF 1: | 2: | @1: END", api.ErrLabel}, {"CASE i OF 2: | @0 .. 4: END", api.ErrLabel}, {"CASE i OF 0 .. 4: | @2: END", api.ErrLabel}, {"CASE i OF 0 .. 4: | @4: END", api.ErrLabel}, {"CASE i OF 0 .. 4: | @0: END", api.ErrLabel}, {"CASE i OF 0 .. 4: | 5, -1: END", 0}, {"CASE i OF 0 .. 4: | @4 .. 8: END", api.ErrLabel}, {"CASE i OF 0 .. 4: | @-3 .. 0: END", api.ErrLabel}, {"CASE i OF 0 .. 4: | 5 .. 8, -3 .. -1: END", 0}, {"CASE i OF 0 .. 9: | @2 .. 3: END", api.ErrLabel}, {"CASE i OF 2 .. 3: | @0 .. 9: END", api.ErrLabel}, {"CASE i OF @4 .. 2: END", api.ErrLabel}, {"CASE i OF 1: | @1 .. 0: END", api.ErrLabel}, {"CASE ch OF \"a\": | @61X: END", api.ErrLabel}, {"CASE ch OF \"a\" .. \"c\": | @\"b\": END", api.ErrLabel}, {"CASE ch OF @\"b\" .. \"a\": END", api.ErrLabel}, {"CASE ch OF 0X .. 0FFX: END", 0}, {"CASE i OF 1: CASE i OF 1: END END", 0},
		{"CASE i OF 0 .. 4095: END", 0}, {"CASE i OF @0 .. 4096: END", api.ErrMany}, {"CASE i OF 0 .. 4094, 4095: END", 0}, {"CASE i OF 0 .. 4095, @5000: END", api.ErrMany}, {"CASE i OF 0 .. 4095: | @5000: END", api.ErrMany}, {"CASE i OF 1: | @2 .. 4097: END", api.ErrMany}, {"CASE i OF 1: | 2 .. 4096: END", 0}, {"CASE i OF @0 .. 2147483647: END", api.ErrMany}, {"CASE i OF @-2147483647 - 1 .. 2147483647: END", api.ErrMany}, {"CASE i OF 0 .. 4095: CASE i OF 0 .. 4095: END END; CASE i OF 0 .. 4095: END", 0}, {"CASE i OF 3: | @0 .. 5000: END", api.ErrLabel}, {"CASE i OF 0 .. 2000: | 2001 .. 4000: | @4001 .. 4096: END", api.ErrMany},
		// Case by case, the labels, then the block.
		{"CASE i OF 1: @b := 1 | TRUE: END", api.ErrType}, {"CASE i OF @TRUE: b := 1 END", api.ErrConst}, {"CASE i OF 1, @TRUE: b := 1 END", api.ErrConst}, {"CASE i OF 1: | 2: @zz | 1: END", api.ErrName}, {"CASE i OF @1 .. 0, TRUE: END", api.ErrLabel}, {"CASE i OF @TRUE .. zz: END", api.ErrConst}, {"CASE i OF 2 .. @zz: END", api.ErrName}, {"CASE i OF 5 .. @TRUE: END", api.ErrConst}, {"CASE @b OF TRUE: zz END", api.ErrType}, {"CASE i OF @j: END", api.ErrConst}, {"CASE i OF @INTEGER: END", api.ErrConst}, {"CASE i OF @1 DIV 0: END", api.ErrZero}, {"CASE i OF 1 .. @2147483647 + 1: END", api.ErrRange},
	})
}

// P18.1: registers. A sum of n names needs n of them if it leans to the right.
func TestNeed(t *testing.T) {
	sum := func(n int, last string) string {
		return strings.Repeat("i + (", n-1) + last + strings.Repeat(")", n-1)
	}
	const most = api.MaxRegs
	lf := libFace(t)
	for n := 1; n <= most+3; n++ {
		code := api.OK
		if n > most {
			code = api.ErrNeed
		}
		at := atFault(code)
		yes := strings.Replace(sum(n, "i"), "+", "=", 1)
		if n < 2 {
			yes = "b"
		}
		for _, frame := range []string{
			"i := %s", "ASSERT(i = 1); j := %s", "FOR i := %s TO 2 DO END", "FOR i := 1 TO %s DO END", "CASE %s OF END", "CASE i OF 1: i := %s END",
		} {
			mustDo(t, code, body(fmt.Sprintf(frame, at+sum(n, "i"))), lf)
		}
		for _, frame := range []string{"IF %s THEN END", "WHILE %s DO END", "REPEAT UNTIL %s", "b := %s", "IF b THEN ELSIF %s THEN END"} {
			mustDo(t, code, body(fmt.Sprintf(frame, at+yes)), lf)
		}
		mustDo(t, code, body(at+"One("+sum(n, "i")+")"), lf)
		mustDo(t, code, body(at+"ASSERT("+yes+")"), lf)
		mustDo(t, code, body("i := "+at+"Fn("+sum(n, "i")+")"), lf)
		mustDo(t, code, body(at+"a["+sum(max(n-1, 1), "i")+"] := 1"), lf)
		mustDo(t, code, moduleOf("VAR i: INTEGER; PROCEDURE F(): INTEGER; RETURN "+at+sum(n, "i")+" END F;"))
		mustPass(t, body("i := "+strings.ReplaceAll(sum(n, "3"), "i", "3")), lf)
		mustPass(t, body("i := i"+strings.Repeat(" + i", n)), lf)
		mustPass(t, moduleOf("CONST c = "+strings.ReplaceAll(sum(n, "3"), "i", "3")+"; VAR a: ARRAY "+strings.ReplaceAll(sum(n, "3"), "i", "3")+" OF CHAR;"))
	}
	over := sum(most+1, "i")
	eachIn(t, body, []faulty{
		// Ahead of what its statement asks of it, but behind its own faults.
		{"b := @" + over, api.ErrNeed}, {"i := " + strings.Replace(over, "(i)", "(@zz)", 1), api.ErrName}, {"IF @" + over + " THEN END", api.ErrNeed}, {"@ABS(" + over + ")", api.ErrNeed}, {"@Fn(" + over + ")", api.ErrNeed}, {"FOR i := 1 TO 2 BY @" + over + " DO END", api.ErrNeed}, {"CASE i OF @" + over + ": END", api.ErrNeed}, {"CASE i OF 1 .. @" + over + ": END", api.ErrConst}, {"@a[i + (i + (i + (i + (i + (i + (i + i))))))] := b", api.ErrNeed}, {"L.v := @" + over, api.ErrNeed}, {"@c3 := " + over, api.ErrVar}, {"i := @" + over + "; zz", api.ErrNeed}, {"@FOR b := " + over + " TO 1 DO END", api.ErrVar},
		{"i := @" + strings.Replace(over, "i + (", "3 + (", 4), api.ErrNeed}, {"s := {0, 1, 2, 3, 4, 5, 6, 7, 8, 9}", 0}, {"s := {0, 1, 2, 3, 4, 5, 6, i}", 0}, {"s := @{0, 1, 2, 3, 4, 5, 6, 7, i}", api.ErrNeed}, {"s := {0, 1, 2, 3, 4, 5, 6 .. i}", 0}, {"s := {0, 1, 2, 3, 4, 5, i .. 6}", 0}, {"s := @{0, 1, 2, 3, 4, 5, 6, 6 .. i}", api.ErrNeed},
	})
	mustFault(t, api.ErrNeed, decls+procs+"PROCEDURE K; CONST k = @"+over+"; END K; END A.", lf)
	mustFault(t, api.ErrNeed, decls+procs+"PROCEDURE K; VAR k: ARRAY @"+over+" OF CHAR; END K; END A.", lf)
	mustFault(t, api.ErrNeed, moduleOf("VAR i: INTEGER; PROCEDURE F(): BOOLEAN; RETURN @"+over+" END F;"))
}
