package token

import (
	"math/rand"
	"slices"
	"strings"
	"testing"
	"unsafe"

	"spinet/api"
)

func TestLexOfAllShortTexts(t *testing.T) {
	for a := range 256 {
		mustLexAsModel(t, string([]byte{byte(a)}))
		for b := range 256 {
			mustLexAsModel(t, string([]byte{byte(a), byte(b)}))
		}
	}
	const bytes = "09AHXf.\"(*): =\n!"
	n := len(bytes)
	for i := range n * n * n * n {
		mustLexAsModel(t, string([]byte{bytes[i%n], bytes[i/n%n], bytes[i/n/n%n], bytes[i/n/n/n]}))
	}
}

func TestLexOfCommentMarks(t *testing.T) {
	const bytes = "(*)a"
	for i := range 1 << 16 {
		var s []byte
		for n := i; len(s) < 8; n /= 4 {
			s = append(s, bytes[n%4])
		}
		mustLexAsModel(t, "(*"+string(s))
	}
}

func TestLexOfGluedParts(t *testing.T) {
	r := rand.New(rand.NewSource(9))
	parts := slices.Concat(allKeywords(), allSigns(), []string{
		" ", "\n", "\t", "\r\n", "(**)", "(* (* *) *)", "(*", "*)", "a", "x1", "H", "X", "0", "9", "17", "0FF", "0AH", "0AX", "2147483647", "2147483648", "0FFFFFFFFH", "100000000H", "100X",
		`""`, `"a"`, `"`, `"(*"`, "\"\xff\"", strings.Repeat("n", api.MaxName), strings.Repeat("s", api.MaxString), "!", "\x00", "\x80",
	})
	for range 20000 {
		var s strings.Builder
		for range 1 + r.Intn(12) {
			s.WriteString(parts[r.Intn(len(parts))])
			if r.Intn(3) == 0 {
				s.WriteByte(' ')
			}
		}
		mustLexAsModel(t, s.String())
	}
}

func someText(r *rand.Rand, from string, most int) string {
	var s []byte
	for range r.Intn(most + 1) {
		s = append(s, from[r.Intn(len(from))])
	}
	return string(s)
}

func someNumber(r *rand.Rand) int {
	edges := []int{0, 1, -1, 9, 10, 1<<31 - 1, -1 << 31, -1<<31 + 1}
	if r.Intn(4) == 0 {
		return edges[r.Intn(len(edges))]
	}
	return int(int32(r.Uint32())) >> r.Intn(31)
}

func someToken(r *rand.Rand) api.Token {
	const letters = "abcxyzABCDEFGHOXYZ"
	at := r.Intn(api.MaxText)
	switch 1 + r.Intn(6) {
	case api.TokName:
		x := name(letters[r.Intn(len(letters)):][:1]+someText(r, letters+"0123456789", api.MaxName-1), at)
		if slices.Contains(allKeywords(), x.Text) {
			x.Kind = api.TokKey
		}
		return x
	case api.TokKey:
		return key(allKeywords()[r.Intn(len(allKeywords()))], at)
	case api.TokInt:
		return num(someNumber(r), at)
	case api.TokChar:
		return char(r.Intn(256), at)
	case api.TokText:
		return quote(someText(r, " !#'(*)a.0AH\x7f\x80\xff", api.MaxString), at)
	}
	return sign(allSigns()[r.Intn(len(allSigns()))], at)
}

func TestLexOfTextIsTheTokens(t *testing.T) {
	r := rand.New(rand.NewSource(93))
	for i := range 2000 {
		var l []api.Token
		for range r.Intn(1 + i/4) {
			l = append(l, someToken(r))
		}
		want, wantErr := wantText(l)
		s, err := Text(l)
		if s != want || err != wantErr {
			t.Fatalf("P9.2: Text of %s: %s, %v, want %s, %v", few(l), head(s), err, head(want), wantErr)
		}
		if err != api.OK {
			continue
		}
		again, at, err := Lex(s)
		if !slices.Equal(withoutPlaces(again), withoutPlaces(l)) || at != 0 || err != api.OK {
			t.Fatalf("P9.3: Lex(%s): %s, %d, %v, want %s", head(s), few(again), at, err, few(l))
		}
	}
}

func TestTextOfLexIsTaken(t *testing.T) {
	for _, s := range []string{"", "x:=0FFH;(* a (* b *) *)", "1..2(**)3", "007 00FFFFFFFFH 000AX", "MODULE A;BEGIN WRITE(\"a\")END A."} {
		l, _, err := Lex(s)
		if err != api.OK {
			t.Fatalf("P9.1: Lex(%q): %v", s, err)
		}
		text, err := Text(l)
		if err != api.OK {
			t.Errorf("P9.2: Text of Lex(%q): %v", s, err)
		}
		again, _, _ := Lex(text)
		if !slices.Equal(withoutPlaces(again), withoutPlaces(l)) {
			t.Errorf("P9.3: %q: %s, want %s", text, few(again), few(l))
		}
	}
}

func TestTextOfTokensMadeAtRandom(t *testing.T) {
	r := rand.New(rand.NewSource(92))
	good := goodTokens()
	for range 50000 {
		x, y := good[r.Intn(len(good))], good[r.Intn(len(good))]
		if r.Intn(2) == 0 {
			y = someToken(r)
		}
		switch r.Intn(4) {
		case 0:
			x.Kind = r.Intn(9) - 1
		case 1:
			x.N = y.N
		case 2:
			x.Text = y.Text
		case 3:
			x.Text += someText(r, " \"\n(*)aE0=.\xff", 3)
		}
		l := []api.Token{x, y}
		want, wantErr := wantText(l)
		if s, err := Text(l); s != want || err != wantErr {
			t.Fatalf("P9.2: Text of %s: %s, %v, want %s, %v", few(l), head(s), err, head(want), wantErr)
		}
	}
}

func TestWhatIsHandedInIsNotChanged(t *testing.T) {
	room := append(slices.Clone(goodTokens()), name("spare", 1), name("spare", 2))
	before := slices.Clone(room)
	Text(room[:len(room)-2])
	Text(room[:3])
	Text(append(slices.Clone(room), api.Token{}))
	if !slices.Equal(room, before) {
		t.Errorf("Text changed its tokens: %s", few(room))
	}
}

func TestAnswersShareNothing(t *testing.T) {
	const s = "x := 12 ; END"
	a, _, _ := Lex(s)
	b, _, _ := Lex(s)
	want := slices.Clone(a)
	room := b[:cap(b)]
	for i := range room {
		room[i] = name("other", -1)
	}
	if !slices.Equal(a, want) {
		t.Errorf("two answers share memory: %s, want %s", few(a), few(want))
	}
	if c, _, _ := Lex(s); !slices.Equal(c, want) {
		t.Errorf("an answer hangs on one ahead of it: %s, want %s", few(c), few(want))
	}
}

func within(part, whole string) bool {
	if part == "" || whole == "" {
		return false
	}
	at, from := uintptr(unsafe.Pointer(unsafe.StringData(part))), uintptr(unsafe.Pointer(unsafe.StringData(whole)))
	return at >= from && at < from+uintptr(len(whole))
}

func TestTextsOfAnswersAreNew(t *testing.T) {
	s := strings.Repeat("name END \"text\" <= ", 3)
	l, _, _ := Lex(s)
	again, _, _ := Lex(s)
	for i, x := range l {
		if within(x.Text, s) {
			t.Errorf("%v is a piece of what was handed in", x)
		}
		if within(x.Text, again[i].Text) {
			t.Errorf("two answers share %v", x)
		}
		if text, _ := Text(l[i : i+1]); within(text, x.Text) {
			t.Errorf("the text of %v is the token's own", x)
		}
	}
}

func TestAnswersAreTheSameEachTime(t *testing.T) {
	const s = "a BEGIN 1 2X \"t\" := ( * )"
	first, _, _ := Lex(s)
	text, _ := Text(first)
	for range 20 {
		Lex("b !")
		Text([]api.Token{{}})
		l, at, err := Lex(s)
		if !slices.Equal(l, first) || at != 0 || err != api.OK {
			t.Fatalf("Lex(%q): %s, %d, %v, want %s", s, few(l), at, err, few(first))
		}
		if again, err := Text(l); again != text || err != api.OK {
			t.Fatalf("Text: %q, %v, want %q", again, err, text)
		}
	}
}
