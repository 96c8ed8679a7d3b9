package consts

import (
	"fmt"
	"math"
	"strings"
	"testing"

	"spinet/api"
)

const (
	least    = -1 << 31
	greatest = 1<<31 - 1
	full     = 1<<32 - 1
)

var (
	longest = strings.Repeat("t", api.MaxString)
	tooLong = longest + "t"
	none    = api.Value{}
	null    = api.Value{Form: api.FmNil}
)

func num(n int) api.Value      { return api.Value{Form: api.FmInt, N: n} }
func truth(n int) api.Value    { return api.Value{Form: api.FmBool, N: n} }
func char(n int) api.Value     { return api.Value{Form: api.FmChar, N: n} }
func word(n int) api.Value     { return api.Value{Form: api.FmSet, N: n} }
func text(s string) api.Value  { return api.Value{Form: api.FmText, Text: s} }
func list(l ...api.Value) vals { return l }

type vals = []api.Value

// elems is a set by its elements, put together by sums of powers.
func elems(l ...int) api.Value {
	n := 0
	for _, e := range l {
		p := 1
		for range e {
			p *= 2
		}
		n += p
	}
	return word(n)
}

func goodValues() vals {
	var l vals
	for _, n := range []int{least, least + 1, -65537, -65536, -46341, -33, -32, -31, -8, -7, -3, -2, -1, 0, 1, 2, 3, 7, 8, 30, 31, 32, 33, 64, 97, 255, 256, 32768, 46340, 46341, 65535, 65536, greatest - 1, greatest} {
		l = append(l, num(n))
	}
	for _, n := range []int{0, 1, 31, 32, 34, 96, 97, 98, 127, 128, 233, 255} {
		l = append(l, char(n))
	}
	for _, n := range []int{0, 1, 2, 3, 4, 5, 47, 0x55555555, 0x7fffffff, 0x80000000, 0x80000001, 0xaaaaaaaa, 0xdeadbeef, full - 1, full} {
		l = append(l, word(n))
	}
	for _, s := range []string{"", " ", "!", "#", "a", "b", "aa", "ab", "abc", "b ", "\x7f", "\x80", "\x80a", "\xe9", "\xff", "\xff\xff", "\u00e9", longest[1:], longest, longest[1:] + "s"} {
		l = append(l, text(s))
	}
	return append(l, truth(0), truth(1), null)
}

func badValues() vals {
	l := vals{
		none, {N: 1}, {Text: "a"}, {Form: -1}, {Form: api.FmArray}, {Form: api.FmArray, N: 1}, {Form: api.FmOpen}, {Form: api.FmRecord}, {Form: api.FmPointer}, {Form: api.FmProc},
		{Form: 12}, {Form: 1 << 32}, {Form: 1<<32 + api.FmInt}, {Form: math.MaxInt}, {Form: math.MinInt}, {Form: -api.FmInt, N: 1}, {Form: api.FmText + 1, Text: "a"},
		num(greatest + 1), num(least - 1), num(1 << 32), num(1<<32 + 1), num(math.MaxInt), num(math.MinInt), {Form: api.FmInt, Text: "a"}, {Form: api.FmInt, N: 97, Text: "a"},
		truth(2), truth(-1), truth(256), truth(1 << 32), truth(math.MaxInt), truth(math.MinInt), {Form: api.FmBool, N: 1, Text: "a"},
		char(256), char(-1), char(1 << 32), char(math.MaxInt), char(math.MinInt), {Form: api.FmChar, N: 97, Text: "a"},
		word(-1), word(full + 1), word(least), word(math.MaxInt), word(math.MinInt), {Form: api.FmSet, N: 1, Text: "a"},
		{Form: api.FmNil, N: 1}, {Form: api.FmNil, N: -1}, {Form: api.FmNil, Text: "a"}, {Form: api.FmNil, Text: "\x00"},
		text(tooLong), text(strings.Repeat("a", 1<<17)), {Form: api.FmText, N: 1}, {Form: api.FmText, N: 97, Text: "a"}, {Form: api.FmText, N: -1, Text: "ab"},
	}
	for _, s := range []string{"\"", "\x00", "\n", "\x1f", "a\"", "\"a", "a\x00", "\x00a", "a\nb", longest[1:] + "\"", "\x1f" + longest[1:]} {
		l = append(l, text(s))
	}
	return l
}

// Every sign and name that there is for some values.
func known() []string {
	return []string{"+", "-", "*", "/", "~", "&", "OR", "DIV", "MOD", "=", "#", "<", "<=", ">", ">=", "IN", "ABS", "ODD", "LSL", "ASR", "ROR", "ORD", "CHR"}
}

func unknown() []string {
	return []string{
		"", " ", "\x00", "+ ", " +", "+\x00", "++", "div", "Div", "DIV ", " MOD", "mod", "or", "Or", "AND", "and", "&&", "||", "|", "^", "!", "!=", "==", "<>", "=<", "=>", "<<", ">>", "in", "In", "IN ", "IS",
		"abs", "Abs", "ABS ", " ABS", "odd", "lsl", "LSR", "ROL", "asr", "ror", "ord", "chr", "Chr", "LEN", "EOT", "INC", "DEC", "INCL", "EXCL", "NEW", "ASSERT", "READ", "WRITE", "MIN", "MAX", "NOT", "ABSABS", strings.Repeat("+", 1<<12),
	}
}

func signs() []string { return append(known(), unknown()...) }

type answer struct {
	v   api.Value
	err api.Errno
}

func (x answer) String() string { return fmt.Sprintf("%s and %d", say(x.v), x.err) }

// say is a value, or some, in bytes that can be printed, and not too many.
func say(l ...api.Value) string {
	s := fmt.Sprint(len(l), ":")
	for _, v := range l[:min(len(l), 4)] {
		s += fmt.Sprintf(" {%d %d %+.20q}", v.Form, v.N, v.Text)
	}
	return s
}

func is(v api.Value) answer                      { return answer{v: v} }
func fails(err api.Errno) answer                 { return answer{err: err} }
func answerOf(v api.Value, err api.Errno) answer { return answer{v, err} }

func mustOne(t *testing.T, op string, v api.Value, want answer) {
	t.Helper()
	if got := answerOf(One(op, v)); got != want {
		t.Errorf("P12.2: One(%.20q): %s: %v, want %v", op, say(v), got, want)
	}
}

func mustTwo(t *testing.T, op string, a, b api.Value, want answer) {
	t.Helper()
	if got := answerOf(Two(op, a, b)); got != want {
		t.Errorf("P12.3: Two(%.20q): %s: %v, want %v", op, say(a, b), got, want)
	}
}

func mustCall(t *testing.T, name string, l vals, want answer) {
	t.Helper()
	if got := answerOf(Call(name, l)); got != want {
		t.Errorf("P12.4: Call(%.20q): %s: %v, want %v", name, say(l...), got, want)
	}
}

func mustSet(t *testing.T, l [][2]int, want answer) {
	t.Helper()
	if got := answerOf(Set(l)); got != want {
		t.Errorf("P12.5: Set(%v) = %v, want %v", l, got, want)
	}
}
