package scope

import (
	"fmt"
	"math"
	"slices"
	"strings"
	"testing"

	"spinet/api"
)

var (
	longest = strings.Repeat("n", api.MaxName)
	tooLong = longest + "n"
)

func mustBeName(t *testing.T, s string, want bool) {
	t.Helper()
	if pattern.MatchString(s) != want {
		t.Fatalf("the model parts from the test at %.40q", s)
	}
	b := started(t)
	if want {
		mustDeclare(t, b.s, s, 5, api.OK)
		mustFind(t, b.s, s, 5, 0)
		mustHere(t, b.s, s)
		return
	}
	mustDeclare(t, b.s, s, 5, api.ErrName)
	mustMiss(t, b.s, s)
	mustHere(t, b.s)
}

func TestNames(t *testing.T) {
	for _, s := range []string{"a", "z", "A", "Z", "aZ", "Za", "a0", "z9", "Z9A0a", "END", "MODULE", "BEGIN", "IS", "INTEGER", "q0Q9zA", longest, "A" + strings.Repeat("9", api.MaxName-1), strings.Repeat("Z", api.MaxName-1)} {
		mustBeName(t, s, true)
	}
	for _, s := range []string{"", "0", "9", "1a", "9Z", "+", "-a", "a-b", "a+", "*", ":=", "a*", "a.b", ".", "a.", ".a", "_", "_a", "a_", " ", "a b", " a", "a ", "\ta", "a\n", "\na", "a\r", "\x00", "a\x00", "\x00a", "a\x00\x00", "ä", "aä", "a\x80", "\x80", "a\xff", "\xc1", "\u212a", "a\u0660", tooLong, "A" + strings.Repeat("9", api.MaxName), tooLong + longest, strings.Repeat("a", 1<<20), strings.Repeat("\x00", 1<<20)} {
		mustBeName(t, s, false)
	}
}

func TestEveryByteOfAName(t *testing.T) {
	const letters = "ABCDEFGHIJKLMNOPQRSTUVWXYZabcdefghijklmnopqrstuvwxyz"
	for b := range 256 {
		c := string([]byte{byte(b)})
		first := strings.Contains(letters, c)
		behind := first || strings.Contains("0123456789", c)
		for _, rest := range []string{"", "a", "aZ9", longest[1:]} {
			mustBeName(t, c+rest, first)
		}
		for _, x := range [][2]string{{"a", ""}, {"a", "b"}, {"Ab", "c9"}, {longest[1:], ""}, {longest[9:], longest[16:]}} {
			mustBeName(t, x[0]+c+x[1], behind)
		}
	}
}

// What is refused changes nothing, whatever is there.
func TestNoName(t *testing.T) {
	b := started(t)
	for range 3 {
		b.declare(t, "a", 1)
		b.declare(t, longest, 2)
		for _, s := range []string{"", "1", "a ", "a\x00", "a.", tooLong, longest + "\x00", strings.Repeat("a", 1<<17)} {
			mustDeclare(t, b.s, s, 9, api.ErrName)
			b.mustBeAlike(t, s, "b")
		}
		b.open(t)
	}
}

func TestTwice(t *testing.T) {
	b := started(t)
	for range 2 {
		for _, name := range []string{"x", "y", longest} {
			mustDeclare(t, b.s, name, 1, api.OK)
			b.m.declare(name, 1)
		}
		for _, name := range []string{"x", "y", longest, "x"} {
			for _, n := range []int{1, 2, 0, -1, math.MaxInt} {
				mustDeclare(t, b.s, name, n, api.ErrTwice)
				b.mustBeAlike(t, "X")
			}
		}
		mustDeclare(t, b.s, "X", 3, api.OK)
		mustDeclare(t, b.s, longest[1:], 4, api.OK)
		b.m.declare("X", 3)
		b.m.declare(longest[1:], 4)
		b.mustBeAlike(t, "Y")
		b.open(t)
	}
}

func TestNameOfALevelBeneath(t *testing.T) {
	s := New()
	mustDeclare(t, s, "x", 1, api.OK)
	mustDeclare(t, s, "y", 2, api.OK)
	mustOpen(t, s, api.OK)
	mustFind(t, s, "x", 1, 0)
	mustDeclare(t, s, "x", 3, api.OK)
	mustDeclare(t, s, "x", 4, api.ErrTwice)
	mustFind(t, s, "x", 3, 1)
	mustFind(t, s, "y", 2, 0)
	mustHere(t, s, "x")
	mustOpen(t, s, api.OK)
	mustFind(t, s, "x", 3, 1)
	mustHere(t, s)
	mustDeclare(t, s, "y", 5, api.OK)
	mustDeclare(t, s, "x", 0, api.OK)
	mustFind(t, s, "x", 0, 2)
	mustFind(t, s, "y", 5, 2)
	mustMiss(t, s, "z")
	mustClose(t, s, true)
	mustFind(t, s, "x", 3, 1)
	mustFind(t, s, "y", 2, 0)
	mustDeclare(t, s, "x", 6, api.ErrTwice)
	mustClose(t, s, true)
	mustFind(t, s, "x", 1, 0)
	mustFind(t, s, "y", 2, 0)
	mustHere(t, s, "x", "y")
}

// numbered are n names, of which no one comes twice.
func numbered(n int) []string {
	var l []string
	for i := range n {
		l = append(l, fmt.Sprint("N", i))
	}
	return l
}

func TestMany(t *testing.T) {
	b := started(t)
	names := numbered(api.MaxTypes)
	for level := range 3 {
		for i, name := range names {
			mustDeclare(t, b.s, name, 1000*level+i, api.OK)
			b.m.declare(name, 1000*level+i)
		}
		for _, name := range []string{"M", "N256", "N", "n0", longest} {
			mustDeclare(t, b.s, name, 1, api.ErrMany)
		}
		b.mustBeAlike(t, "M", "N256")
		b.open(t)
	}
	for range 3 {
		b.close(t)
		b.mustBeAlike(t, "M")
		mustDeclare(t, b.s, "M", 1, api.ErrMany)
	}
	b.open(t)
	b.declare(t, "M", 1)
	b.mustBeAlike(t, "M")
}

// A level that is full counts for itself alone: those above have as many again,
// down to the deepest.
func TestManyAtEachLevel(t *testing.T) {
	s := New()
	names := numbered(api.MaxTypes)
	for level := range api.MaxNest {
		for i, name := range names {
			mustDeclare(t, s, name, level*i, api.OK)
		}
		mustDeclare(t, s, "M", 1, api.ErrMany)
		if level < deepest {
			mustOpen(t, s, api.OK)
		}
	}
	for level := deepest; level > 0; level-- {
		for i, name := range names {
			mustFind(t, s, name, level*i, level)
		}
		mustClose(t, s, true)
		mustHere(t, s, names...)
	}
}

func TestWhichErrorIsTold(t *testing.T) {
	s := New()
	mustDeclare(t, s, "N0", 1, api.OK)
	mustDeclare(t, s, "1", 1, api.ErrName)
	mustDeclare(t, s, "N0", 1, api.ErrTwice)
	for _, name := range numbered(api.MaxTypes)[1:] {
		mustDeclare(t, s, name, 1, api.OK)
	}
	mustDeclare(t, s, "M", 1, api.ErrMany)
	for _, name := range []string{"", "1", "M ", "N0\x00", tooLong} {
		mustDeclare(t, s, name, 1, api.ErrName)
	}
	for _, name := range []string{"N0", "N7", "N255"} {
		mustDeclare(t, s, name, 1, api.ErrTwice)
	}
	var none *Scope
	mustDeclare(t, none, "1", 1, api.ErrArg)
	mustDeclare(t, none, "x", 1, api.ErrArg)
}

func TestAnyNumber(t *testing.T) {
	s := New()
	for i, n := range []int{0, 1, -1, 63, 64, 255, math.MaxInt32, math.MinInt32, 1 << 32, 1<<32 + 1, math.MaxInt, math.MinInt, math.MaxInt - 1, math.MinInt + 1} {
		name := fmt.Sprint("n", i)
		mustDeclare(t, s, name, n, api.OK)
		mustFind(t, s, name, n, 0)
		mustOpen(t, s, api.OK)
		mustDeclare(t, s, name, ^n, api.OK)
		mustFind(t, s, name, ^n, 1)
		mustClose(t, s, true)
		mustFind(t, s, name, n, 0)
	}
	// Two names may stand for one number.
	mustDeclare(t, s, "one", 1, api.OK)
	mustFind(t, s, "one", 1, 0)
	mustFind(t, s, "n1", 1, 0)
}

// Names that begin alike, or end alike, or differ in their letters' size alone.
func TestNamesKeepApart(t *testing.T) {
	b := started(t)
	for level := range 3 {
		for n := 1 + level; n <= api.MaxName; n += 2 {
			b.declare(t, longest[:n], n)
			b.declare(t, strings.ToUpper(longest[:n]), -n)
			b.declare(t, "x"+longest[:n-1], 100*n)
		}
		b.mustBeAlike(t, "N", "n", "nn", "nN", "Nn", "NN", "nx")
		b.open(t)
	}
}

func TestHereIsInOrder(t *testing.T) {
	names := []string{"z", "a", "M", "B", "y", "b", "Z", "A", "m", "x9", "x10", "x"}
	for turn := range names {
		l := slices.Concat(names[turn:], names[:turn])
		s := New()
		for level := range 3 {
			for i, name := range l {
				mustDeclare(t, s, name, level-i, api.OK)
				mustDeclare(t, s, l[0], 1, api.ErrTwice)
				mustHere(t, s, l[:i+1]...)
			}
			mustHere(t, s, l...)
			mustOpen(t, s, api.OK)
			mustHere(t, s)
			slices.Reverse(l)
		}
	}
}
