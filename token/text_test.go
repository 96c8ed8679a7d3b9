package token

import (
	"slices"
	"strings"
	"testing"

	"spinet/api"
)

func TestTextOfTokens(t *testing.T) {
	mustWrite(t, nil, "")
	mustWrite(t, []api.Token{}, "")
	mustWrite(t, []api.Token{name("x", 0)}, "x")
	mustWrite(t, []api.Token{key("END", 0)}, "END")
	mustWrite(t, []api.Token{num(7, 0)}, "7")
	mustWrite(t, []api.Token{char(7, 0)}, "7X")
	mustWrite(t, []api.Token{quote("", 0)}, `""`)
	mustWrite(t, []api.Token{quote("(* a'b *)\x7f\x80\xff", 0)}, "\"(* a'b *)\x7f\x80\xff\"")
	mustWrite(t, []api.Token{sign(":=", 0)}, ":=")
	mustWrite(t, []api.Token{name("x", 0), key("END", 0), num(-1, 0), char(255, 0), quote("a b", 0), sign(";", 0)}, `x END 0FFFFFFFFH 0FFX "a b" ;`)
	mustWrite(t, []api.Token{sign("(", 0), sign("*", 0), sign("*", 0), sign(")", 0)}, "( * * )")
	mustWrite(t, []api.Token{num(1, 0), sign(".", 0), num(5, 0)}, "1 . 5")
	mustWrite(t, []api.Token{name("a", 0), name("b", 0)}, "a b")
	for _, s := range allKeywords() {
		mustWrite(t, []api.Token{key(s, 0), key(s, 0)}, s+" "+s)
	}
	for _, s := range allSigns() {
		mustWrite(t, []api.Token{sign(s, 0), sign(s, 0)}, s+" "+s)
	}
}

func TestTextOfNumbers(t *testing.T) {
	for n, s := range map[int]string{
		0: "0", 1: "1", 9: "9", 10: "10", 255: "255", 1 << 16: "65536", 1<<31 - 1: "2147483647",
		-1: "0FFFFFFFFH", -2: "0FFFFFFFEH", -10: "0FFFFFFF6H", -256: "0FFFFFF00H", -0x54321000: "0ABCDF000H",
		-1 << 31: "080000000H", -1<<31 + 1: "080000001H", -0x60000000: "0A0000000H",
	} {
		mustWrite(t, []api.Token{num(n, 0)}, s)
		mustWrite(t, []api.Token{sign("-", 0), num(n, 0), sign("-", 0)}, "- "+s+" -")
	}
	for n, s := range map[int]string{
		0: "0X", 1: "1X", 9: "9X", 10: "0AX", 15: "0FX", 16: "10X", 25: "19X", 26: "1AX", 153: "99X", 159: "9FX",
		160: "0A0X", 170: "0AAX", 240: "0F0X", 255: "0FFX",
	} {
		mustWrite(t, []api.Token{char(n, 0)}, s)
	}
	for n := range 256 {
		mustWrite(t, []api.Token{char(n, 0)}, wantSpelling(char(n, 0)))
	}
}

func TestAnyPlace(t *testing.T) {
	for _, at := range []int{0, 1, -1, api.MaxText, api.MaxText + 1, least, greatest} {
		mustWrite(t, []api.Token{name("x", at), key("END", at), num(-1, at), char(255, at), quote("a", at), sign(";", at)}, `x END 0FFFFFFFFH 0FFX "a" ;`)
		mustNotWrite(t, []api.Token{name("END", at)}, api.ErrArg)
	}
}

func tokensThatAreNone() []api.Token {
	longName, longText := strings.Repeat("a", api.MaxName+1), strings.Repeat("a", api.MaxString+1)
	l := []api.Token{
		{}, {Kind: 0, Text: "a"}, {Kind: 7, Text: "a"}, {Kind: 7}, {Kind: 7, Text: "+"}, {Kind: -1, Text: "a"}, {Kind: least, N: 1}, {Kind: greatest, Text: "END"},
		name("", 0), name(" a", 0), name("a ", 0), name("a b", 0), name("a_", 0), name("_", 0), name("1", 0), name("1a", 0), name("é", 0), name("a\x00", 0), name("+", 0), name(`"a"`, 0), name("a(**)", 0), name("(**)a", 0), name("a.b", 0), name(longName, 0), name(longText, 0),
		key("", 0), key("a", 0), key("End", 0), key("end", 0), key("ENDE", 0), key("EN", 0), key("END ", 0), key(" END", 0), key("END END", 0), key("+", 0), key("REAL", 0), key(longName, 0),
		num(1<<31, 0), num(1<<31+1, 0), num(1<<32-1, 0), num(1<<32, 0), num(1<<32+5, 0), num(-1<<31-1, 0), num(-1<<32, 0), num(-1<<32-1, 0), num(-1<<33+7, 0), num(greatest, 0), num(least, 0), num(least+1, 0),
		char(-1, 0), char(-10, 0), char(-255, 0), char(-256, 0), char(256, 0), char(257, 0), char(1<<32, 0), char(1<<32+65, 0), char(-1<<32+65, 0), char(greatest, 0), char(least, 0),
		quote(`"`, 0), quote(`a"`, 0), quote(`"a`, 0), quote(`a"b`, 0), quote(`a" "b`, 0), quote(`a"(*`, 0), quote("\n", 0), quote("a\x1f", 0), quote("\x00a", 0), quote(longText, 0), quote(longText+`"`, 0),
		sign("", 0), sign("!", 0), sign("(*", 0), sign("(**)", 0), sign("*)", 0), sign(":=:", 0), sign("==", 0), sign("<>", 0), sign("...", 0), sign("+ ", 0), sign(" +", 0), sign("+(**)", 0), sign("(**)+", 0), sign("a", 0), sign("END", 0), sign("1", 0), sign(`""`, 0), sign(`"`, 0), sign("\x00", 0), sign("\xff", 0), sign("\xff=", 0),
	}
	for _, s := range allKeywords() {
		l = append(l, name(s, 0), sign(s, 0), key(s[1:], 0), key(s+"0", 0))
	}
	for _, s := range allSigns() {
		l = append(l, name(s, 0), key(s, 0), sign(s+s[:1]+"a", 0))
	}
	for _, x := range goodTokens() {
		if x.Kind == api.TokInt || x.Kind == api.TokChar {
			for _, s := range []string{"a", " ", "0", "1", "7", "END", "+", longText} {
				x.Text = s
				l = append(l, x)
			}
			continue
		}
		for _, n := range []int{1, -1, 7, 255, least, greatest} {
			x.N = n
			l = append(l, x)
		}
	}
	return slices.DeleteFunc(l, func(x api.Token) bool { return x == key("OR", 0) }) // FOR without its F
}

func goodTokens() []api.Token {
	return []api.Token{
		name("x", 0), name("End", 0), name("H", 0), name(strings.Repeat("n", api.MaxName), 0), key("END", 0), key("PROCEDURE", 0),
		num(0, 0), num(7, 0), num(1<<31-1, 0), num(-1, 0), num(-1<<31, 0), char(0, 0), char(10, 0), char(255, 0),
		quote("", 0), quote("a b", 0), quote("*)(*", 0), quote(strings.Repeat("\xff", api.MaxString), 0), sign(":=", 0), sign(".", 0), sign("(", 0), sign("*", 0),
	}
}

func TestTokensThatAreNone(t *testing.T) {
	for _, x := range tokensThatAreNone() {
		mustNotWrite(t, []api.Token{x}, api.ErrArg)
		x.At = 5
		for _, y := range goodTokens() {
			mustNotWrite(t, []api.Token{y, x}, api.ErrArg)
			mustNotWrite(t, []api.Token{x, y}, api.ErrArg)
		}
	}
}

func TestTextOfManyTokens(t *testing.T) {
	plus := slices.Repeat([]api.Token{sign("+", 0)}, api.MaxTokens)
	mustWrite(t, plus, strings.TrimSuffix(strings.Repeat("+ ", api.MaxTokens), " "))
	mustNotWrite(t, append(slices.Clone(plus), sign("+", 0)), api.ErrMany)
	mustNotWrite(t, slices.Concat(plus, plus), api.ErrMany)
	for _, none := range []api.Token{{}, name("END", 0), num(1<<31, 0)} {
		mustNotWrite(t, append(slices.Clone(plus), none), api.ErrMany)
		mustNotWrite(t, append([]api.Token{none}, plus...), api.ErrMany)
		mustNotWrite(t, append([]api.Token{none}, plus[1:]...), api.ErrArg)
		mustNotWrite(t, append(slices.Clone(plus[1:]), none), api.ErrArg)
	}
	long := slices.Repeat([]api.Token{name("abcd", 0)}, api.MaxTokens+1)
	mustNotWrite(t, long, api.ErrMany)
}

func TestTextOfManyBytes(t *testing.T) {
	// 3277 names of four bytes, a blank between two, are MaxText bytes.
	full := slices.Repeat([]api.Token{name("abcd", 0)}, (api.MaxText+1)/5)
	mustWrite(t, full, strings.TrimSuffix(strings.Repeat("abcd ", len(full)), " "))
	if s, _ := Text(full); len(s) != api.MaxText {
		t.Errorf("P9.2: %d bytes, want %d", len(s), api.MaxText)
	}
	last := len(full) - 1
	for _, more := range []api.Token{name("abcde", 0), num(12345, 0), char(255, 0), quote("abc", 0)} {
		l := slices.Clone(full)
		l[last] = more
		if more.Kind == api.TokChar {
			mustWrite(t, l, strings.Repeat("abcd ", last)+"0FFX")
			continue
		}
		mustNotWrite(t, l, api.ErrLong)
		l[0] = name("abc", 0)
		mustWrite(t, l, "abc "+strings.Repeat("abcd ", last-1)+wantSpelling(more))
	}
	mustNotWrite(t, append(slices.Clone(full), sign("+", 0)), api.ErrLong)
	mustNotWrite(t, slices.Repeat([]api.Token{quote(strings.Repeat("s", api.MaxString), 0)}, api.MaxTokens), api.ErrLong)
	long := append(slices.Repeat(full, 1), full[:2000]...)
	mustNotWrite(t, long, api.ErrLong)
	for _, none := range tokensThatAreNone()[:20] {
		mustNotWrite(t, append(slices.Clone(long), none), api.ErrArg)
	}
}
