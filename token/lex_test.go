package token

import (
	"fmt"
	"strings"
	"testing"

	"spinet/api"
)

func TestChapterExamples(t *testing.T) {
	mustLex(t, "x:=0FFH;(* a (* b *) *)", name("x", 0), sign(":=", 1), num(255, 3), sign(";", 7))
	mustLex(t, "1..2", num(1, 0), sign("..", 1), num(2, 3))
	mustRefuse(t, "1.5", 0, api.ErrToken)
	mustLex(t, "0AX", char(10, 0))
	mustRefuse(t, "12AB", 0, api.ErrToken)
}

func TestNothingAndBlanks(t *testing.T) {
	for _, s := range []string{"", " ", "\t", "\n", "\r", "\t\n\r ", "\r\n\r\n", strings.Repeat(" \t\r\n", api.MaxText/4)} {
		mustLex(t, s)
		if len(s) < 5 {
			mustLex(t, s+"a"+s+"+"+s, name("a", len(s)), sign("+", 2*len(s)+1))
		}
	}
}

func TestLengthOfTheSource(t *testing.T) {
	full := strings.Repeat(" ", api.MaxText)
	mustLex(t, full)
	mustLex(t, full[1:]+"a", name("a", api.MaxText-1))
	mustLex(t, "(*"+full[4:]+"*)")
	for _, s := range []string{" ", "a", "!", "\"", "(*", "99999999999", "\x00"} {
		mustRefuse(t, full+s, 0, api.ErrLong)
		mustRefuse(t, s+full, 0, api.ErrLong)
		mustRefuse(t, "+"+s+full+full, 0, api.ErrLong)
	}
	mustRefuse(t, strings.Repeat("+", api.MaxText+1), 0, api.ErrLong)
	mustRefuse(t, strings.Repeat("+", api.MaxText), api.MaxTokens, api.ErrMany)
	mustRefuse(t, full[1:]+"!", api.MaxText-1, api.ErrToken)
}

func TestKeywords(t *testing.T) {
	if n := len(allKeywords()); n != 33 {
		t.Fatal("the chapter lists 33 keywords, the test", n)
	}
	for _, k := range allKeywords() {
		n := len(k)
		mustLex(t, k, key(k, 0))
		mustLex(t, " "+k+";"+k, key(k, 1), sign(";", n+1), key(k, n+2))
		for _, more := range []string{"a", "z", "A", "X", "Z", "0", "9", k} {
			mustLex(t, k+more, name(k+more, 0))
		}
		mustLex(t, "x"+k, name("x"+k, 0))
		mustLex(t, k[:n-1], name(k[:n-1], 0))
		mustLex(t, strings.ToLower(k), name(strings.ToLower(k), 0))
		mustLex(t, k[:1]+strings.ToLower(k[1:]), name(k[:1]+strings.ToLower(k[1:]), 0))
		mustLex(t, k[:n-1]+strings.ToLower(k[n-1:]), name(k[:n-1]+strings.ToLower(k[n-1:]), 0))
		mustRefuse(t, k+"_", n, api.ErrToken)
	}
	for _, s := range []string{"REAL", "SYSTEM", "INTEGER", "BOOLEAN", "CHAR", "SET", "WRITE", "READ", "EOT", "WITH", "EXIT", "LOOP"} {
		mustLex(t, s, name(s, 0))
	}
}

func TestNames(t *testing.T) {
	for b := range 256 {
		s := string([]byte{byte(b)})
		if b >= 'a' && b <= 'z' || b >= 'A' && b <= 'Z' {
			mustLex(t, s, name(s, 0))
			mustLex(t, "q"+s+"7"+s, name("q"+s+"7"+s, 0))
		}
	}
	for _, part := range []string{"a", "Z", "a0", "FOR", "H1X"} {
		s := strings.Repeat(part, api.MaxName)
		longest, tooLong := s[:api.MaxName], s[:api.MaxName]+"b"
		mustLex(t, longest, name(longest, 0))
		mustLex(t, "+"+longest+"(**)"+longest, sign("+", 0), name(longest, 1), name(longest, 29))
		mustLex(t, longest+" b", name(longest, 0), name("b", 25))
		mustRefuse(t, tooLong, 0, api.ErrLong)
		mustRefuse(t, "a + "+tooLong+" !", 4, api.ErrLong)
		mustRefuse(t, longest+"9", 0, api.ErrLong)
	}
	mustRefuse(t, strings.Repeat("x", api.MaxText), 0, api.ErrLong)
	mustLex(t, "FFH H X AX h", name("FFH", 0), name("H", 4), name("X", 6), name("AX", 8), name("h", 11))
}

func TestDecimalNumbers(t *testing.T) {
	for s, n := range map[string]int{"0": 0, "1": 1, "9": 9, "10": 10, "2147483646": 1<<31 - 2, "2147483647": 1<<31 - 1, "1000000000": 1000000000} {
		noughts := strings.Repeat("0", 300)
		mustLex(t, s, num(n, 0))
		mustLex(t, noughts+s, num(n, 0))
		mustLex(t, "-"+s+"-"+noughts+s, sign("-", 0), num(n, 1), sign("-", len(s)+1), num(n, len(s)+2))
	}
	mustLex(t, strings.Repeat("0", api.MaxText), num(0, 0))
	for _, s := range []string{"2147483648", "2147483649", "3000000000", "4294967295", "4294967296", "9999999999", "21474836470", "9223372036854775807", "9223372036854775808", "18446744073709551615", "18446744073709551616", "18446744073709551617", strings.Repeat("9", 100), "1" + strings.Repeat("0", 400), strings.Repeat("0", 50) + "2147483648"} {
		mustRefuse(t, s, 0, api.ErrRange)
		mustRefuse(t, "x := "+s+";", 5, api.ErrRange)
		mustRefuse(t, s+"..1", 0, api.ErrRange)
		mustRefuse(t, s+" .5", 0, api.ErrRange)
		mustRefuse(t, s+".", 0, api.ErrToken)
		mustRefuse(t, s+".5", 0, api.ErrToken)
		mustRefuse(t, s+"A", 0, api.ErrToken)
	}
	mustRefuse(t, strings.Repeat("9", api.MaxText), 0, api.ErrRange)
}

func TestHexadecimalNumbers(t *testing.T) {
	for s, n := range map[string]int{
		"0H": 0, "9H": 9, "0AH": 10, "0FH": 15, "10H": 16, "0FFH": 255, "12ABH": 0x12ab, "0ABCDEFH": 0xabcdef,
		"7FFFFFFFH": 1<<31 - 1, "80000000H": -1 << 31, "80000001H": -1<<31 + 1, "0FFFFFFFEH": -2, "0FFFFFFFFH": -1,
		"21474836H": 0x21474836,
	} {
		noughts := strings.Repeat("0", 300)
		mustLex(t, s, num(n, 0))
		mustLex(t, noughts+s, num(n, 0))
		mustLex(t, "("+s+")", sign("(", 0), num(n, 1), sign(")", len(s)+1))
	}
	for _, s := range []string{"100000000H", "0100000000H", "100000001H", "1FFFFFFFFH", "0FFFFFFFFFH", "0FFFFFFFFFFFFFFFFH", "10000000000000000H", "10000000000000001H", strings.Repeat("9", 99) + "H", strings.Repeat("0", 60) + "100000000H"} {
		mustRefuse(t, s, 0, api.ErrRange)
		mustRefuse(t, "a ["+s+"]", 3, api.ErrRange)
		mustRefuse(t, s+".5", 0, api.ErrRange)
	}
	for _, digit := range "0123456789ABCDEF" {
		s := fmt.Sprintf("0%cH", digit)
		mustLex(t, s, num(strings.IndexRune("0123456789ABCDEF", digit), 0))
	}
}

func TestCharacters(t *testing.T) {
	for n := range 256 {
		mustLex(t, fmt.Sprintf("0%XX", n), char(n, 0))
		mustLex(t, fmt.Sprintf("+000000000000000000000%XX", n), sign("+", 0), char(n, 1))
	}
	mustLex(t, "0X 9X 22X 0FFX", char(0, 0), char(9, 3), char(34, 6), char(255, 10))
	for _, s := range []string{"100X", "0100X", "101X", "999X", "0FFFX", "1000X", "0FFFFFFFFX", "100000000X", "10000000000000000X", "0000000000100X", strings.Repeat("1", 500) + "X"} {
		mustRefuse(t, s, 0, api.ErrRange)
		mustRefuse(t, "WRITE("+s+")", 6, api.ErrRange)
	}
}

func TestDigitsThatAreNoNumber(t *testing.T) {
	for _, s := range []string{"0A", "1F", "12AB", "12E", "1E5", "0FF", "9A9", "9D9", "123456789012345678901234567890F", "0Ah", "0Ax", "0FG", "1DIV", "1ELSE", "1END", "1AND", "12A.", "12A.5", "12A..5"} {
		mustRefuse(t, s, 0, api.ErrToken)
		mustRefuse(t, "x 7 "+s+" ", 4, api.ErrToken)
	}
}

func TestWhatStandsBehindDigits(t *testing.T) {
	mustLex(t, "12a", num(12, 0), name("a", 2))
	mustLex(t, "12f", num(12, 0), name("f", 2))
	mustLex(t, "12h", num(12, 0), name("h", 2))
	mustLex(t, "12x", num(12, 0), name("x", 2))
	mustLex(t, "12e5", num(12, 0), name("e5", 2))
	mustLex(t, "12G", num(12, 0), name("G", 2))
	mustLex(t, "1OR", num(1, 0), key("OR", 1))
	mustLex(t, "1MOD2", num(1, 0), name("MOD2", 1))
	mustLex(t, "12Ha", num(0x12, 0), name("a", 3))
	mustLex(t, "1HH", num(1, 0), name("H", 2))
	mustLex(t, "1HX", num(1, 0), name("X", 2))
	mustLex(t, "1XH", char(1, 0), name("H", 2))
	mustLex(t, "1X1X", char(1, 0), char(1, 2))
	mustLex(t, "1H1H", num(1, 0), num(1, 2))
	mustLex(t, "0AHA", num(10, 0), name("A", 3))
	mustLex(t, "0AXOR", char(10, 0), key("OR", 3))
	mustLex(t, "1\"a\"", num(1, 0), quote("a", 1))
	mustLex(t, "1(*.5*)2", num(1, 0), num(2, 7))
}

func TestPointsBehindNumbers(t *testing.T) {
	for _, s := range []string{"1.", "0.", "1.5", "1.a", "1.E", "1. ", "1. .", "1.(", "1.(*.*)", "1.\"", "1.!", "0001.5", "2147483647.", "2147483648.", "99999999999999999999.9"} {
		mustRefuse(t, s, 0, api.ErrToken)
		mustRefuse(t, "a:="+s, 3, api.ErrToken)
		mustRefuse(t, "1.."+s, 3, api.ErrToken)
	}
	mustLex(t, "1..", num(1, 0), sign("..", 1))
	mustLex(t, "1...", num(1, 0), sign("..", 1), sign(".", 3))
	mustLex(t, "1....", num(1, 0), sign("..", 1), sign("..", 3))
	mustLex(t, "1...5", num(1, 0), sign("..", 1), sign(".", 3), num(5, 4))
	mustLex(t, "1 .", num(1, 0), sign(".", 2))
	mustLex(t, "1 .5", num(1, 0), sign(".", 2), num(5, 3))
	mustLex(t, "1(**).5", num(1, 0), sign(".", 5), num(5, 6))
	mustLex(t, "a1.5", name("a1", 0), sign(".", 2), num(5, 3))
	mustLex(t, "1H.", num(1, 0), sign(".", 2))
	mustLex(t, "1H.5", num(1, 0), sign(".", 2), num(5, 3))
	mustLex(t, "0AH..0FH", num(10, 0), sign("..", 3), num(15, 5))
	mustLex(t, "1X.", char(1, 0), sign(".", 2))
	mustLex(t, "1X.5", char(1, 0), sign(".", 2), num(5, 3))
	mustLex(t, "0AX..0FX", char(10, 0), sign("..", 3), char(15, 5))
}

func TestTexts(t *testing.T) {
	mustLex(t, `""`, quote("", 0))
	mustLex(t, `"""a"`, quote("", 0), quote("a", 2))
	mustLex(t, `x"a'b"y`, name("x", 0), quote("a'b", 1), name("y", 6))
	mustLex(t, `"(*""*)"`, quote("(*", 0), quote("*)", 4))
	mustLex(t, `" END 1.5 ! "`, quote(" END 1.5 ! ", 0))
	mustLex(t, "\"\x80\xff\xc3\"\"é\x7f\"", quote("\x80\xff\xc3", 0), quote("é\x7f", 5))
	for b := range 256 {
		s := string([]byte{byte(b)})
		switch {
		case b == '"':
			mustRefuse(t, `"a"`+s, 3, api.ErrToken)
		case b < 32:
			mustRefuse(t, `1 "a`+s+`"`, 2, api.ErrToken)
			mustRefuse(t, `1 "`+s, 2, api.ErrToken)
		default:
			mustLex(t, `1 "a`+s+`"`, num(1, 0), quote("a"+s, 2))
			mustRefuse(t, `1 "a`+s, 2, api.ErrToken)
		}
	}
}

func TestLengthOfTexts(t *testing.T) {
	for _, part := range []string{"a", " ", "\xff", "é", "(*"} {
		longest := strings.Repeat(part, api.MaxString)[:api.MaxString]
		mustLex(t, `"`+longest+`"`, quote(longest, 0))
		mustLex(t, `+"`+longest+`""b"`, sign("+", 0), quote(longest, 1), quote("b", 67))
		mustRefuse(t, `"`+longest, 0, api.ErrToken)
		mustRefuse(t, `"`+longest+"\n\"", 0, api.ErrToken)
		mustRefuse(t, `"`+longest+`a"`, 0, api.ErrLong)
		mustRefuse(t, `a "`+longest+`a" !`, 2, api.ErrLong)
		mustRefuse(t, `"`+longest+longest+`"`, 0, api.ErrLong)
		mustRefuse(t, `a "`+longest+"a", 2, api.ErrToken)
		mustRefuse(t, `a "`+longest+"a\x1f\"", 2, api.ErrToken)
		mustRefuse(t, `"`+longest+longest+"\x00\"", 0, api.ErrToken)
	}
	mustRefuse(t, `"`+strings.Repeat("a", api.MaxText-1), 0, api.ErrToken)
	mustRefuse(t, `"`+strings.Repeat("a", api.MaxText-2)+`"`, 0, api.ErrLong)
}

func TestSigns(t *testing.T) {
	for _, a := range allSigns() {
		mustLex(t, a, sign(a, 0))
		mustLex(t, "x"+a+"y", name("x", 0), sign(a, 1), name("y", 1+len(a)))
		for _, b := range allSigns() {
			mustLex(t, a+" "+b, sign(a, 0), sign(b, len(a)+1))
			mustLexAsModel(t, a+b)
			for _, c := range allSigns() {
				mustLexAsModel(t, a+b+c)
			}
		}
	}
	mustLex(t, ":=", sign(":=", 0))
	mustLex(t, ": =", sign(":", 0), sign("=", 2))
	mustLex(t, "::==", sign(":", 0), sign(":=", 1), sign("=", 3))
	mustLex(t, "..", sign("..", 0))
	mustLex(t, ". .", sign(".", 0), sign(".", 2))
	mustLex(t, "...", sign("..", 0), sign(".", 2))
	mustLex(t, "<=>=", sign("<=", 0), sign(">=", 2))
	mustLex(t, "< => =", sign("<", 0), sign("=", 2), sign(">", 3), sign("=", 5))
	mustLex(t, "<>", sign("<", 0), sign(">", 1))
	mustLex(t, "=<", sign("=", 0), sign("<", 1))
	mustLex(t, "#=", sign("#", 0), sign("=", 1))
	mustLex(t, "( *", sign("(", 0), sign("*", 2))
	mustLex(t, "*)", sign("*", 0), sign(")", 1))
	mustLex(t, "[](){}^", sign("[", 0), sign("]", 1), sign("(", 2), sign(")", 3), sign("{", 4), sign("}", 5), sign("^", 6))
}

func TestComments(t *testing.T) {
	for _, c := range []string{
		"(**)", "(***)", "(****)", "(* *)", "(*)*)", "(*(*)*)*)", "(*(**)*)", "(* a (* b *) c (* d (* e *) *) *)", "(* ( * ) *)", "(* * *)",
		`(*"*)`, `(*"""*)`, "(*!\x00\xff\n\t*)", "(*1.5 99999999999*)", "(* *(**) *)", "(*((*)*)*)", "(**(**)**)",
		"(*" + strings.Repeat("a", 100) + "*)", strings.Repeat("(*", 2000) + strings.Repeat("*)", 2000),
	} {
		n := len(c)
		mustLex(t, c)
		mustLex(t, c+c)
		mustLex(t, c+"a", name("a", n))
		mustLex(t, "a"+c, name("a", 0))
		mustLex(t, "a"+c+"b", name("a", 0), name("b", 1+n))
		mustLex(t, "1"+c+"2H", num(1, 0), num(2, 1+n))
		mustLex(t, ":"+c+" "+c+"=", sign(":", 0), sign("=", 2+2*n))
		mustLex(t, c+"*)", sign("*", n), sign(")", n+1))
	}
	mustLex(t, `"(*"*)`, quote("(*", 0), sign("*", 4), sign(")", 5))
	mustLex(t, `(*"*)*)`, sign("*", 5), sign(")", 6))
}

func TestCommentsWithoutAnEnd(t *testing.T) {
	for _, c := range []string{
		"(*", "(*)", "(* ", "(*a", "(* *", "(* )", "(* * )", "(*(", "(*(*)", "(*(*)*)", "(* (* *)", "(* (*", "(* a (* b *) c (* d *)", "(*(**)", `(*"`, "(* *(*) *)",
		strings.Repeat("(*", 2000), strings.Repeat("(*", 2000) + strings.Repeat("*)", 1999),
	} {
		mustRefuse(t, c, 0, api.ErrToken)
		mustRefuse(t, "x "+c, 2, api.ErrToken)
		mustRefuse(t, "(* *)+(**)"+c, 10, api.ErrToken)
		mustRefuse(t, "1"+c, 1, api.ErrToken)
	}
}

func TestBytesThatBeginNoToken(t *testing.T) {
	none := 0
	for b := range 256 {
		s := string([]byte{byte(b)})
		if strings.Contains("\t\n\r \"+-*/&~.,;|([{^=#<>:)]}0123456789abcdefghijklmnopqrstuvwxyzABCDEFGHIJKLMNOPQRSTUVWXYZ", s) {
			continue
		}
		none++
		mustRefuse(t, s, 0, api.ErrToken)
		mustRefuse(t, s+"a", 0, api.ErrToken)
		mustRefuse(t, "a"+s+"b", 1, api.ErrToken)
		mustRefuse(t, "1"+s, 1, api.ErrToken)
		mustRefuse(t, "x := \"a\" ;"+s+" ", 10, api.ErrToken)
		mustRefuse(t, " (* *)\n"+s, 7, api.ErrToken)
		mustLex(t, "(*"+s+"*)")
	}
	if none != 256-4-1-22-10-52 {
		t.Error("the test holds other bytes than it should:", none)
	}
}

func TestCountOfTokens(t *testing.T) {
	for _, part := range []string{"+", "a ", "1 ", "1X", `""`} {
		full := strings.Repeat(part, api.MaxTokens)
		n := len(full)
		l, at, err := Lex(full)
		if len(l) != api.MaxTokens || at != 0 || err != api.OK {
			t.Errorf("P9.1: %d tokens %q: %d, %d, %v", api.MaxTokens, part, len(l), at, err)
		}
		mustLexAsModel(t, full)
		mustLexAsModel(t, full+" (* + *)\n")
		for _, more := range []string{"+", "x", "END", "12", "0AX", `"a"`, "<=", "1..2", "x!", "x 1.5"} {
			mustRefuse(t, full+" "+more, n+1, api.ErrMany)
			mustRefuse(t, full+" (* + *) "+more, n+9, api.ErrMany)
		}
		for _, wrong := range []string{"!", "1.5", "12A", `"a`, "(* a"} {
			mustRefuse(t, full+" "+wrong, n+1, api.ErrToken)
			mustRefuse(t, full+" + "+wrong, n+1, api.ErrMany)
		}
		mustRefuse(t, full+" 2147483648", n+1, api.ErrRange)
		mustRefuse(t, full+" 100X", n+1, api.ErrRange)
		mustRefuse(t, full+" "+strings.Repeat("a", api.MaxName+1), n+1, api.ErrLong)
		mustRefuse(t, full+` "`+strings.Repeat("a", api.MaxString+1)+`"`, n+1, api.ErrLong)
		mustRefuse(t, "!"+full+"+", 0, api.ErrToken)
	}
}

func TestFirstErrorFromTheLeft(t *testing.T) {
	wrong := []struct {
		text string
		err  api.Errno
	}{
		{"!", api.ErrToken},
		{"1.5", api.ErrToken},
		{"12A", api.ErrToken},
		{"\"a\n", api.ErrToken},
		{"2147483648", api.ErrRange},
		{"100X", api.ErrRange},
		{"100000000H", api.ErrRange},
		{strings.Repeat("n", api.MaxName+1), api.ErrLong},
		{`"` + strings.Repeat("s", api.MaxString+1) + `"`, api.ErrLong},
	}
	for _, a := range wrong {
		mustRefuse(t, a.text+" (*", 0, a.err)
		for _, b := range wrong {
			mustRefuse(t, a.text+" "+b.text, 0, a.err)
			mustRefuse(t, "x := (*!*) "+a.text+" "+b.text, 11, a.err)
			mustRefuse(t, "(* "+b.text+" *)"+a.text, len(b.text)+6, a.err)
		}
		mustRefuse(t, "x (* "+a.text, 2, api.ErrToken)
	}
}

func TestEachPartOfAToken(t *testing.T) {
	s := "ab END 17 0FFX \"a b\" <="
	mustLex(t, s,
		api.Token{Kind: 1, Text: "ab", N: 0, At: 0},
		api.Token{Kind: 2, Text: "END", N: 0, At: 3},
		api.Token{Kind: 3, Text: "", N: 17, At: 7},
		api.Token{Kind: 4, Text: "", N: 255, At: 10},
		api.Token{Kind: 5, Text: "a b", N: 0, At: 15},
		api.Token{Kind: 6, Text: "<=", N: 0, At: 21},
	)
}
