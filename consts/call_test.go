package consts

import (
	"strings"
	"testing"

	"spinet/api"
)

func hasSign(l, sign string) bool {
	return sign != "" && !strings.Contains(sign, " ") && strings.Contains(l, " "+sign+" ")
}

func TestCallsOfOneInt(t *testing.T) { // P12.4
	for _, x := range []struct {
		name string
		n    int
		want answer
	}{
		{"ABS", 0, is(num(0))}, {"ABS", 3, is(num(3))}, {"ABS", -3, is(num(3))}, {"ABS", greatest, is(num(greatest))}, {"ABS", -greatest, is(num(greatest))}, {"ABS", least, fails(api.ErrRange)},
		{"ODD", 0, is(truth(0))}, {"ODD", 1, is(truth(1))}, {"ODD", 2, is(truth(0))}, {"ODD", -1, is(truth(1))}, {"ODD", -2, is(truth(0))}, {"ODD", -3, is(truth(1))}, {"ODD", least, is(truth(0))}, {"ODD", least + 1, is(truth(1))}, {"ODD", greatest, is(truth(1))},
		{"CHR", 0, is(char(0))}, {"CHR", 97, is(char(97))}, {"CHR", 255, is(char(255))}, {"CHR", 256, fails(api.ErrRange)}, {"CHR", -1, fails(api.ErrRange)}, {"CHR", -255, fails(api.ErrRange)}, {"CHR", least, fails(api.ErrRange)}, {"CHR", greatest, fails(api.ErrRange)},
	} {
		mustCall(t, x.name, list(num(x.n)), x.want)
	}
}

func TestMoves(t *testing.T) { // P12.4
	for _, x := range []struct {
		name       string
		a, b, want int
	}{
		{"LSL", 3, 0, 3}, {"LSL", 3, 1, 6}, {"LSL", 3, 31, least}, {"LSL", 3, 32, 3}, {"LSL", 3, 33, 6}, {"LSL", 3, -1, least}, {"LSL", 1, 31, least}, {"LSL", -1, 31, least}, {"LSL", least, 1, 0}, {"LSL", -5, 1, -10}, {"LSL", greatest, 1, -2}, {"LSL", least, least, least}, {"LSL", 3, greatest, least},
		{"ASR", -8, 0, -8}, {"ASR", -8, 1, -4}, {"ASR", -8, 31, -1}, {"ASR", -8, 32, -8}, {"ASR", -8, 33, -4}, {"ASR", -8, -1, -1}, {"ASR", 8, 1, 4}, {"ASR", greatest, 30, 1}, {"ASR", greatest, 31, 0}, {"ASR", least, 31, -1}, {"ASR", least, 33, -1 << 30}, {"ASR", -7, 1, -4}, {"ASR", 7, -1, 0},
		{"ROR", 6, 0, 6}, {"ROR", 6, 1, 3}, {"ROR", 1, 1, least}, {"ROR", 1, 31, 2}, {"ROR", 6, 32, 6}, {"ROR", 6, 33, 3}, {"ROR", 1, -1, 2}, {"ROR", least, 31, 1}, {"ROR", least, 1, 1 << 30}, {"ROR", -1, 13, -1}, {"ROR", -2, 1, greatest}, {"ROR", 0, 7, 0},
	} {
		mustCall(t, x.name, list(num(x.a), num(x.b)), is(num(x.want)))
	}
}

func TestOrd(t *testing.T) { // P12.4
	for _, x := range []struct {
		v    api.Value
		want answer
	}{
		{char(0), is(num(0))}, {char(97), is(num(97))}, {char(200), is(num(200))}, {char(255), is(num(255))}, {truth(0), is(num(0))}, {truth(1), is(num(1))},
		{word(0), is(num(0))}, {elems(0, 2), is(num(5))}, {elems(30), is(num(1 << 30))}, {elems(31), is(num(least))}, {word(greatest), is(num(greatest))}, {word(full), is(num(-1))}, {elems(0, 31), is(num(least + 1))},
		{text("a"), is(num(97))}, {text(" "), is(num(32))}, {text("\x7f"), is(num(127))}, {text("\x80"), is(num(128))}, {text("\xff"), is(num(255))},
		{text(""), fails(api.ErrConst)}, {text("ab"), fails(api.ErrConst)}, {text("\u00e9"), fails(api.ErrConst)}, {text(longest), fails(api.ErrConst)}, {text(tooLong), fails(api.ErrConst)}, {text("\""), fails(api.ErrConst)}, {text("\x00"), fails(api.ErrConst)},
		{num(0), fails(api.ErrConst)}, {num(97), fails(api.ErrConst)}, {null, fails(api.ErrConst)}, {none, fails(api.ErrConst)},
	} {
		mustCall(t, "ORD", list(x.v), x.want)
	}
}

func TestChrAndOrd(t *testing.T) { // P12.4
	for n := range 256 {
		mustCall(t, "CHR", list(num(n)), is(char(n)))
		mustCall(t, "ORD", list(char(n)), is(num(n)))
	}
}

func TestCallsOfOtherForms(t *testing.T) { // P12.1, P12.4
	one := map[int]string{api.FmInt: " ABS ODD CHR ", api.FmChar: " ORD ", api.FmBool: " ORD ", api.FmSet: " ORD "}
	for _, name := range signs() {
		for _, a := range goodValues() {
			_, err := Call(name, list(a))
			known := hasSign(one[a.Form], name) || a.Form == api.FmText && len(a.Text) == 1 && name == "ORD"
			if (err != api.ErrConst) != known {
				t.Errorf("P12.4: Call(%.20q): %s: %v", name, say(a), err)
			}
			for _, b := range goodValues() {
				_, err := Call(name, list(a, b))
				known := a.Form == api.FmInt && b.Form == api.FmInt && hasSign(" LSL ASR ROR ", name)
				if (err != api.ErrConst) != known {
					t.Errorf("P12.4: Call(%.20q): %s: %v", name, say(a, b), err)
				}
			}
		}
	}
}

func TestNumbersOfValues(t *testing.T) { // P12.4
	for _, name := range signs() {
		mustCall(t, name, nil, fails(api.ErrConst))
		mustCall(t, name, vals{}, fails(api.ErrConst))
		for _, v := range []api.Value{num(1), num(least), char(97), truth(1), word(1), text("a"), null, none} {
			mustCall(t, name, list(v, v, v), fails(api.ErrConst))
			mustCall(t, name, list(num(1), num(1), v), fails(api.ErrConst))
			mustCall(t, name, list(num(1), num(1), num(1), v), fails(api.ErrConst))
		}
	}
	for _, name := range []string{"ABS", "ODD", "CHR"} {
		mustCall(t, name, list(num(1), num(1)), fails(api.ErrConst))
	}
	for _, v := range []api.Value{char(97), truth(1), word(1), text("a")} {
		mustCall(t, "ORD", list(v, v), fails(api.ErrConst))
	}
	for _, name := range []string{"LSL", "ASR", "ROR"} {
		mustCall(t, name, list(num(1)), fails(api.ErrConst))
	}
	many := make(vals, 1<<16)
	for i := range many {
		many[i] = num(1)
	}
	mustCall(t, "ABS", many, fails(api.ErrConst))
	mustCall(t, "LSL", many, fails(api.ErrConst))
}

// What is not Good comes ahead of any other error; a value without a form is
// no value that lacks.
func TestCallsOfBadValues(t *testing.T) { // P12.1, P12.4
	for _, name := range signs() {
		for _, bad := range badValues() {
			mustCall(t, name, list(bad), fails(api.ErrConst))
			for _, v := range []api.Value{num(1), num(least), num(256), char(97), truth(1), word(1), text("a"), null, bad} {
				mustCall(t, name, list(bad, v), fails(api.ErrConst))
				mustCall(t, name, list(v, bad), fails(api.ErrConst))
			}
		}
	}
}
