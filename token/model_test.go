package token

import (
	"fmt"
	"math/big"
	"regexp"
	"slices"
	"strings"
	"testing"

	"spinet/api"
)

// The tests hold the package against two models that know nothing of each
// other: wantLex matches patterns, with comments by recursion and numbers of
// any size; wantText prints tokens and says of each part of a token what it may
// be.

const (
	least    = -1 << 63
	greatest = 1<<63 - 1
)

func allKeywords() []string {
	return []string{
		"ARRAY", "BEGIN", "BY", "CASE", "CONST", "DIV", "DO", "ELSE", "ELSIF", "END", "FALSE",
		"FOR", "IF", "IMPORT", "IN", "IS", "MOD", "MODULE", "NIL", "OF", "OR", "POINTER",
		"PROCEDURE", "RECORD", "REPEAT", "RETURN", "THEN", "TO", "TRUE", "TYPE", "UNTIL", "VAR", "WHILE",
	}
}

func allSigns() []string {
	return strings.Split(":= .. <= >= + - * / & ~ . , ; | ( [ { ^ = # < > : ) ] }", " ")
}

var (
	blanksPattern = regexp.MustCompile(`\A[\x09\x0a\x0d\x20]+`)
	wordPattern   = regexp.MustCompile(`\A[A-Za-z][0-9A-Za-z]*`)
	numberPattern = regexp.MustCompile(`\A([0-9][0-9A-F]*)([HX]?)`)
	floatPattern  = regexp.MustCompile(`(?s)\A\.(?:\z|[^.])`)
	letterPattern = regexp.MustCompile(`[A-F]`)
	textPattern   = regexp.MustCompile(`(?s)\A"([^"\x00-\x1f]*)"`)
	signPattern   = regexp.MustCompile(`\A(?::=|\.\.|<=|>=|[-+*/&~.,;|(\[{^=#<>:)\]}])`)
	namePattern   = regexp.MustCompile(`\A[A-Za-z][0-9A-Za-z]{0,23}\z`)
	bytesPattern  = regexp.MustCompile(`(?s)\A[^"\x00-\x1f]*\z`)
)

// Where the comment that begins at a place ends; -1, if it does not.
func commentEnd(s string, at int) int {
	at += 2
	for at+2 <= len(s) {
		switch {
		case s[at:at+2] == "*)":
			return at + 2
		case s[at:at+2] == "(*":
			if at = commentEnd(s, at); at < 0 {
				return -1
			}
		default:
			at++
		}
	}
	return -1
}

func wantNumber(s string) (api.Token, int, api.Errno) {
	m := numberPattern.FindStringSubmatch(s)
	digits, mark, size := m[1], m[2], len(m[0])
	base, bound := 16, int64(4294967296)
	x := api.Token{Kind: 3}
	switch {
	case mark == "X":
		bound, x.Kind = 256, 4
	case mark == "" && (letterPattern.MatchString(digits) || floatPattern.MatchString(s[size:])):
		return api.Token{}, 0, 90
	case mark == "":
		base, bound = 10, 2147483648
	}
	n, ok := new(big.Int).SetString(digits, base)
	if !ok {
		panic("the model reads " + digits)
	}
	if n.Cmp(big.NewInt(bound)) >= 0 {
		return api.Token{}, 0, 91
	}
	x.N = int(n.Int64())
	if x.N >= 2147483648 {
		x.N -= 4294967296
	}
	return x, size, 0
}

func wantToken(s string) (api.Token, int, api.Errno) {
	if numberPattern.MatchString(s) {
		return wantNumber(s)
	}
	if w := wordPattern.FindString(s); w != "" {
		kind := 1
		if slices.Contains(allKeywords(), w) {
			kind = 2
		}
		if len(w) > 24 {
			return api.Token{}, 0, 2
		}
		return api.Token{Kind: kind, Text: w}, len(w), 0
	}
	if m := textPattern.FindStringSubmatch(s); m != nil {
		if len(m[1]) > 64 {
			return api.Token{}, 0, 2
		}
		return api.Token{Kind: 5, Text: m[1]}, len(m[0]), 0
	}
	if w := signPattern.FindString(s); w != "" {
		return api.Token{Kind: 6, Text: w}, len(w), 0
	}
	return api.Token{}, 0, 90
}

func wantLex(s string) ([]api.Token, int, api.Errno) {
	if len(s) > 16384 {
		return nil, 0, 2
	}
	var l []api.Token
	for at := 0; at < len(s); {
		if n := len(blanksPattern.FindString(s[at:])); n > 0 {
			at += n
			continue
		}
		if strings.HasPrefix(s[at:], "(*") {
			end := commentEnd(s, at)
			if end < 0 {
				return nil, at, 90
			}
			at = end
			continue
		}
		x, size, err := wantToken(s[at:])
		switch {
		case err != 0:
			return nil, at, err
		case len(l) == 6000:
			return nil, at, 3
		}
		x.At = at
		l = append(l, x)
		at += size
	}
	return l, 0, 0
}

func mayBe(x api.Token) bool {
	counts := x.Kind == 3 || x.Kind == 4
	if counts && x.Text != "" || !counts && x.N != 0 {
		return false
	}
	switch x.Kind {
	case 1:
		return namePattern.MatchString(x.Text) && !slices.Contains(allKeywords(), x.Text)
	case 2:
		return slices.Contains(allKeywords(), x.Text)
	case 3:
		return -2147483648 <= x.N && x.N <= 2147483647
	case 4:
		return 0 <= x.N && x.N <= 255
	case 5:
		return len(x.Text) <= 64 && bytesPattern.MatchString(x.Text)
	case 6:
		return slices.Contains(allSigns(), x.Text)
	}
	return false
}

func wantSpelling(x api.Token) string {
	switch {
	case x.Kind == 3 && x.N < 0:
		return fmt.Sprintf("0%08XH", x.N+4294967296)
	case x.Kind == 3:
		return fmt.Sprintf("%d", x.N)
	case x.Kind == 4 && (x.N >= 10 && x.N < 16 || x.N >= 160):
		return fmt.Sprintf("0%XX", x.N)
	case x.Kind == 4:
		return fmt.Sprintf("%XX", x.N)
	case x.Kind == 5:
		return "\"" + x.Text + "\""
	}
	return x.Text
}

func wantText(l []api.Token) (string, api.Errno) {
	if len(l) > 6000 {
		return "", 3
	}
	var parts []string
	for _, x := range l {
		if !mayBe(x) {
			return "", 1
		}
		parts = append(parts, wantSpelling(x))
	}
	s := strings.Join(parts, " ")
	if len(s) > 16384 {
		return "", 2
	}
	return s, 0
}

// head keeps what a test says of a long text short.
func head(s string) string {
	if len(s) > 80 {
		return fmt.Sprintf("%q.. (%d bytes)", s[:80], len(s))
	}
	return fmt.Sprintf("%q", s)
}

func few(l []api.Token) string {
	out := fmt.Sprintf("%d tokens", len(l))
	for _, x := range l[:min(len(l), 8)] {
		out += fmt.Sprintf(" {%d %s %d %d}", x.Kind, head(x.Text), x.N, x.At)
	}
	return out
}

func name(text string, at int) api.Token  { return api.Token{Kind: api.TokName, Text: text, At: at} }
func key(text string, at int) api.Token   { return api.Token{Kind: api.TokKey, Text: text, At: at} }
func num(n, at int) api.Token             { return api.Token{Kind: api.TokInt, N: n, At: at} }
func char(n, at int) api.Token            { return api.Token{Kind: api.TokChar, N: n, At: at} }
func quote(text string, at int) api.Token { return api.Token{Kind: api.TokText, Text: text, At: at} }
func sign(text string, at int) api.Token  { return api.Token{Kind: api.TokSign, Text: text, At: at} }

func mustLex(t *testing.T, s string, want ...api.Token) {
	t.Helper()
	if l, at, err := wantLex(s); !slices.Equal(l, want) || at != 0 || err != api.OK {
		t.Fatalf("the model parts from the test at %s: %s, %d, %v", head(s), few(l), at, err)
	}
	if l, at, err := Lex(s); !slices.Equal(l, want) || at != 0 || err != api.OK {
		t.Errorf("P9.1: Lex(%s): %s, %d, %v, want %s", head(s), few(l), at, err, few(want))
	}
}

func mustRefuse(t *testing.T, s string, at int, err api.Errno) {
	t.Helper()
	if l, a, e := wantLex(s); len(l) != 0 || a != at || e != err {
		t.Fatalf("the model parts from the test at %s: %s, %d, %v", head(s), few(l), a, e)
	}
	if l, a, e := Lex(s); len(l) != 0 || a != at || e != err {
		t.Errorf("P9.1: Lex(%s): %s, %d, %v, want %d, %v", head(s), few(l), a, e, at, err)
	}
}

func mustLexAsModel(t *testing.T, s string) {
	t.Helper()
	want, wantAt, wantErr := wantLex(s)
	if l, at, err := Lex(s); !slices.Equal(l, want) || at != wantAt || err != wantErr {
		t.Fatalf("P9.1: Lex(%s): %s, %d, %v, want %s, %d, %v", head(s), few(l), at, err, few(want), wantAt, wantErr)
	}
}

func mustWrite(t *testing.T, l []api.Token, want string) {
	t.Helper()
	if s, err := wantText(l); s != want || err != api.OK {
		t.Fatalf("the model parts from the test at %s: %s, %v", few(l), head(s), err)
	}
	if s, err := Text(l); s != want || err != api.OK {
		t.Errorf("P9.2: Text of %s: %s, %v, want %s", few(l), head(s), err, head(want))
	}
}

func mustNotWrite(t *testing.T, l []api.Token, want api.Errno) {
	t.Helper()
	if s, err := wantText(l); s != "" || err != want {
		t.Fatalf("the model parts from the test at %s: %s, %v", few(l), head(s), err)
	}
	if s, err := Text(l); s != "" || err != want {
		t.Errorf("P9.2: Text of %s: %s, %v, want %v", few(l), head(s), err, want)
	}
}

func withoutPlaces(l []api.Token) []api.Token {
	out := slices.Clone(l)
	for i := range out {
		out[i].At = 0
	}
	return out
}
