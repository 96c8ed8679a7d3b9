package consts

import (
	"spinet/api"
	"spinet/bits"
)

// key is what an operation is found by. Where there is one value alone, right
// is FmNone, which no constant has.
type key struct {
	left, right int
	sign        string
}

type operation func(a, b api.Value) (api.Value, api.Errno)

func reckon(m map[key]operation, sign string, a, b api.Value) (api.Value, api.Errno) {
	do, found := m[key{left: a.Form, right: b.Form, sign: sign}]
	if !found {
		return api.Value{}, api.ErrConst
	}
	return do(a, b)
}

func ones() map[key]operation {
	return map[key]operation{
		{api.FmInt, api.FmNone, "+"}:  ofInts(func(a, _ int) int { return a }),
		{api.FmInt, api.FmNone, "-"}:  ofInts(func(a, _ int) int { return -a }),
		{api.FmSet, api.FmNone, "-"}:  ofSets(func(a, _ uint32) uint32 { return ^a }),
		{api.FmBool, api.FmNone, "~"}: tells(func(a, _ api.Value) bool { return a.N == 0 }),
	}
}

func twos() map[key]operation {
	m := map[key]operation{
		{api.FmInt, api.FmInt, "+"}:    ofInts(func(a, b int) int { return a + b }),
		{api.FmInt, api.FmInt, "-"}:    ofInts(func(a, b int) int { return a - b }),
		{api.FmInt, api.FmInt, "*"}:    ofInts(func(a, b int) int { return a * b }),
		{api.FmInt, api.FmInt, "DIV"}:  division(quotient),
		{api.FmInt, api.FmInt, "MOD"}:  division(rest),
		{api.FmSet, api.FmSet, "+"}:    ofSets(func(a, b uint32) uint32 { return a | b }),
		{api.FmSet, api.FmSet, "-"}:    ofSets(func(a, b uint32) uint32 { return a &^ b }),
		{api.FmSet, api.FmSet, "*"}:    ofSets(func(a, b uint32) uint32 { return a & b }),
		{api.FmSet, api.FmSet, "/"}:    ofSets(func(a, b uint32) uint32 { return a ^ b }),
		{api.FmBool, api.FmBool, "&"}:  tells(func(a, b api.Value) bool { return a.N == 1 && b.N == 1 }),
		{api.FmBool, api.FmBool, "OR"}: tells(func(a, b api.Value) bool { return a.N == 1 || b.N == 1 }),
		{api.FmInt, api.FmSet, "IN"}:   member,
	}
	addRelations(m)
	return m
}

func calls() map[key]operation {
	return map[key]operation{
		{api.FmInt, api.FmNone, "ABS"}:  ofInts(func(a, _ int) int { return max(a, -a) }),
		{api.FmInt, api.FmNone, "ODD"}:  tells(func(a, _ api.Value) bool { return a.N%2 != 0 }),
		{api.FmInt, api.FmInt, "LSL"}:   ofWords(bits.Lsl),
		{api.FmInt, api.FmInt, "ASR"}:   ofWords(bits.Asr),
		{api.FmInt, api.FmInt, "ROR"}:   ofWords(bits.Ror),
		{api.FmChar, api.FmNone, "ORD"}: ofWords(func(a, _ uint32) uint32 { return a }),
		{api.FmBool, api.FmNone, "ORD"}: ofWords(func(a, _ uint32) uint32 { return a }),
		{api.FmSet, api.FmNone, "ORD"}:  ofWords(func(a, _ uint32) uint32 { return a }),
		{api.FmText, api.FmNone, "ORD"}: ordinalOfText,
		{api.FmInt, api.FmNone, "CHR"}:  character,
	}
}

// int has room for every sum, difference and product of two numbers of 32
// bits: what doesn't fit is seen behind the reckoning.
func ofInts(f func(a, b int) int) operation {
	return func(a, b api.Value) (api.Value, api.Errno) { return integer(f(a.N, b.N)) }
}

func ofWords(f func(a, b uint32) uint32) operation {
	return func(a, b api.Value) (api.Value, api.Errno) {
		return integer(bits.Signed(f(bits.Word(a.N), bits.Word(b.N))))
	}
}

func ofSets(f func(a, b uint32) uint32) operation {
	return func(a, b api.Value) (api.Value, api.Errno) {
		return set(f(bits.Word(a.N), bits.Word(b.N))), api.OK
	}
}

func tells(holds func(a, b api.Value) bool) operation {
	return func(a, b api.Value) (api.Value, api.Errno) { return boolean(holds(a, b)), api.OK }
}

func division(f func(a, b int) int) operation {
	return func(a, b api.Value) (api.Value, api.Errno) {
		if b.N <= 0 {
			return api.Value{}, api.ErrZero
		}
		return integer(f(a.N, b.N))
	}
}

// Go's division cuts toward 0, which is up where a is below 0.
func quotient(a, b int) int {
	return (a - rest(a, b)) / b
}

func rest(a, b int) int {
	return (a%b + b) % b
}

func member(a, b api.Value) (api.Value, api.Errno) {
	if !within(a.N, lastElem) {
		return api.Value{}, api.ErrRange
	}
	return boolean(bits.Get(bits.Word(b.N), a.N, 1) == 1), api.OK
}

func ordinalOfText(a, _ api.Value) (api.Value, api.Errno) {
	if len(a.Text) != 1 {
		return api.Value{}, api.ErrConst
	}
	return integer(int(a.Text[0]))
}

func character(a, _ api.Value) (api.Value, api.Errno) {
	if !within(a.N, lastChar) {
		return api.Value{}, api.ErrRange
	}
	return api.Value{Form: api.FmChar, N: a.N}, api.OK
}

func integer(n int) (api.Value, api.Errno) {
	if !bits.Fits(n, wordBits) {
		return api.Value{}, api.ErrRange
	}
	return api.Value{Form: api.FmInt, N: n}, api.OK
}

func set(w uint32) api.Value {
	return api.Value{Form: api.FmSet, N: int(w)}
}

func boolean(b bool) api.Value {
	if b {
		return api.Value{Form: api.FmBool, N: 1}
	}
	return api.Value{Form: api.FmBool}
}
