package token

import (
	"strconv"
	"strings"

	"spinet/api"
)

// spell is a token's text, and whether Lex makes such a token: it is spelt with
// little care, and then must be the very token that its text begins with. (If
// more stands behind that one, the two differ: the text of x is the longer.)
func (t *tables) spell(x api.Token) (string, bool) {
	s := spelling(x)
	y, _, err := t.first(s)
	y.At = x.At
	return s, err == api.OK && y == x
}

func spelling(x api.Token) string {
	switch x.Kind {
	case api.TokInt:
		return integer(x.N)
	case api.TokChar:
		return character(x.N)
	case api.TokText:
		return `"` + x.Text + `"`
	}
	return x.Text
}

func integer(n int) string {
	if n < 0 {
		return "0" + hexadecimal(int64(uint32(n))) + "H"
	}
	return strconv.Itoa(n)
}

func character(n int) string {
	digits := hexadecimal(int64(n))
	if digits[0] >= 'A' {
		digits = "0" + digits
	}
	return digits + "X"
}

func hexadecimal(n int64) string {
	return strings.ToUpper(strconv.FormatInt(n, 16))
}
