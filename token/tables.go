package token

import (
	"strings"

	"spinet/api"
)

const keywords = "ARRAY BEGIN BY CASE CONST DIV DO ELSE ELSIF END FALSE FOR IF IMPORT IN IS MOD MODULE NIL OF OR POINTER PROCEDURE RECORD REPEAT RETURN THEN TO TRUE TYPE UNTIL VAR WHILE"

// The longer ones stand ahead of those that they begin with.
var signs = [...]string{
	":=", "..", "<=", ">=",
	"+", "-", "*", "/", "&", "~", ".", ",", ";", "|", "(", "[", "{", "^", "=", "#", "<", ">", ":", ")", "]", "}",
}

// A byte may be of several classes.
type class uint8

const (
	blank class = 1 << iota
	letter
	digit
	hexDigit
	inText
)

// tables are made once in a call, and asked for each token.
type tables struct {
	classes [256]class
	keys    map[string]int
}

func newTables() *tables {
	return &tables{classes: classesOfBytes(), keys: kindsOfKeywords()}
}

func classesOfBytes() [256]class {
	var l [256]class
	for _, r := range [...]struct {
		from, to int
		is       class
	}{
		{'\t', '\n', blank},
		{'\r', '\r', blank},
		{' ', ' ', blank},
		{'a', 'z', letter},
		{'A', 'Z', letter},
		{'0', '9', digit | hexDigit},
		{'A', 'F', hexDigit},
		{' ', '"' - 1, inText},
		{'"' + 1, 255, inText},
	} {
		for b := r.from; b <= r.to; b++ {
			l[b] |= r.is
		}
	}
	return l
}

func kindsOfKeywords() map[string]int {
	m := map[string]int{}
	for _, text := range strings.Fields(keywords) {
		m[text] = api.TokKey
	}
	return m
}
