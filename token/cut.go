package token

import (
	"strconv"
	"strings"

	"spinet/api"
)

// gap is how many bytes of blanks and comments s begins with; with an error,
// how many stand ahead of the comment that has no end.
func (t *tables) gap(s string) (int, api.Errno) {
	n := 0
	for {
		n += t.run(s[n:], blank)
		if !strings.HasPrefix(s[n:], "(*") {
			return n, api.OK
		}
		size := comment(s[n:])
		if size == 0 {
			return n, api.ErrToken
		}
		n += size
	}
}

// comment is the size of the comment that s begins with; 0, if it has no end.
func comment(s string) int {
	depth := 0
	// Both bytes of a bracket are passed at once: in (*) they share none.
	for at := 0; at+1 < len(s); at++ {
		switch s[at : at+2] {
		case "(*":
			depth++
			at++
		case "*)":
			depth--
			at++
		}
		if depth == 0 {
			return at + 1
		}
	}
	return 0
}

// run is how many bytes of that class s begins with.
func (t *tables) run(s string, of class) int {
	n := 0
	for n < len(s) && t.classes[s[n]]&of != 0 {
		n++
	}
	return n
}

// first is the token that s begins with, and its size; its place is left to
// the caller. Comments are too: a (* is told as a ( here.
func (t *tables) first(s string) (api.Token, int, api.Errno) {
	switch {
	case t.run(s, letter) > 0:
		return t.word(s)
	case t.run(s, digit) > 0:
		return t.number(s)
	case strings.HasPrefix(s, `"`):
		return t.quoted(s)
	}
	for _, text := range signs {
		if strings.HasPrefix(s, text) {
			return api.Token{Kind: api.TokSign, Text: s[:len(text)]}, len(text), api.OK
		}
	}
	return fail(api.ErrToken)
}

func fail(err api.Errno) (api.Token, int, api.Errno) {
	return api.Token{}, 0, err
}

func (t *tables) word(s string) (api.Token, int, api.Errno) {
	n := t.run(s, letter|digit)
	if n > api.MaxName {
		return fail(api.ErrLong)
	}
	kind, ok := t.keys[s[:n]]
	if !ok {
		kind = api.TokName
	}
	return api.Token{Kind: kind, Text: s[:n]}, n, api.OK
}

func (t *tables) number(s string) (api.Token, int, api.Errno) {
	n := t.run(s, hexDigit)
	digits, rest := s[:n], s[n:]
	switch {
	case strings.HasPrefix(rest, "H"):
		w, err := strconv.ParseUint(digits, 16, 32)
		return counted(api.TokInt, int(int32(w)), n+1, err)
	case strings.HasPrefix(rest, "X"):
		c, err := strconv.ParseUint(digits, 16, 8)
		return counted(api.TokChar, int(c), n+1, err)
	case t.run(digits, digit) < n || floats(rest):
		return fail(api.ErrToken)
	}
	v, err := strconv.ParseInt(digits, 10, 32)
	return counted(api.TokInt, int(v), n, err)
}

// counted takes what strconv says of digits: since they are digits all, they
// can only be too great.
func counted(kind, n, size int, err error) (api.Token, int, api.Errno) {
	if err != nil {
		return fail(api.ErrRange)
	}
	return api.Token{Kind: kind, N: n}, size, api.OK
}

// floats tells whether what stands behind a decimal number makes it a floating
// one.
func floats(rest string) bool {
	return strings.HasPrefix(rest, ".") && !strings.HasPrefix(rest, "..")
}

func (t *tables) quoted(s string) (api.Token, int, api.Errno) {
	n := t.run(s[1:], inText)
	text, rest := s[1:1+n], s[1+n:]
	if !strings.HasPrefix(rest, `"`) {
		return fail(api.ErrToken)
	}
	if n > api.MaxString {
		return fail(api.ErrLong)
	}
	return api.Token{Kind: api.TokText, Text: text}, n + 2, api.OK
}
