package scope

import (
	"fmt"
	"testing"

	"spinet/api"
)

// deepest is the number of the last level that there may be.
const deepest = api.MaxNest - 1

func TestExample(t *testing.T) {
	s := New()
	mustDeclare(t, s, "x", 1, api.OK)
	mustOpen(t, s, api.OK)
	mustDeclare(t, s, "x", 2, api.OK)
	mustFind(t, s, "x", 2, 1)
	mustClose(t, s, true)
	mustFind(t, s, "x", 1, 0)
}

func TestNewHasOneLevelWithoutNames(t *testing.T) {
	s := New()
	if s == nil {
		t.Fatal("P15.1: New is nil")
	}
	mustDepth(t, s, 0)
	mustHere(t, s)
	for _, name := range []string{"x", "INTEGER", "ABS", "END", "", "1"} {
		mustMiss(t, s, name)
	}
	mustClose(t, s, false)
	mustDepth(t, s, 0)
}

func TestOpenUpToTheDeepest(t *testing.T) {
	b := started(t)
	for level := range deepest {
		b.declare(t, fmt.Sprint("n", level), level)
		b.declare(t, "same", -level)
		b.open(t)
		mustDepth(t, b.s, level+1)
		mustHere(t, b.s)
		b.mustBeAlike(t, "none")
	}
	mustDepth(t, b.s, 63)
	b.declare(t, "last", 7)
	b.declare(t, "same", 8)
	for range 3 {
		mustOpen(t, b.s, api.ErrDeep)
		b.mustBeAlike(t, "none")
	}
	b.declare(t, "same", 9)
	b.declare(t, "more", 10)
	b.mustBeAlike(t, "none")
	b.close(t)
	b.mustBeAlike(t, "last", "more")
	mustOpen(t, b.s, api.OK)
	mustOpen(t, b.s, api.ErrDeep)
	mustHere(t, b.s)
	mustMiss(t, b.s, "last")
	mustFind(t, b.s, "same", -62, 62)
}

func TestCloseOfLevel0(t *testing.T) {
	b := started(t)
	b.declare(t, "x", 1)
	b.declare(t, "y", 2)
	for range 3 {
		mustClose(t, b.s, false)
		b.mustBeAlike(t, "z")
	}
	b.declare(t, "x", 3)
	b.declare(t, "z", 4)
	b.open(t)
	mustClose(t, b.s, true)
	mustClose(t, b.s, false)
	mustHere(t, b.s, "x", "y", "z")
	mustFind(t, b.s, "x", 1, 0)
	mustFind(t, b.s, "z", 4, 0)
}

func TestCloseOfEachLevel(t *testing.T) {
	b := started(t)
	var names []string
	for level := range api.MaxNest {
		for k := range 3 {
			names = append(names, fmt.Sprintf("n%dx%d", level, k))
			b.declare(t, names[len(names)-1], 100*level+k)
		}
		b.declare(t, "same", level)
		if level < deepest {
			b.open(t)
		}
	}
	b.mustBeAlike(t, names...)
	for level := deepest; level > 0; level-- {
		mustFind(t, b.s, "same", level, level)
		b.close(t)
		mustDepth(t, b.s, level-1)
		mustMiss(t, b.s, fmt.Sprintf("n%dx1", level))
		mustFind(t, b.s, fmt.Sprintf("n%dx1", level-1), 100*(level-1)+1, level-1)
		b.mustBeAlike(t, names...)
	}
	mustClose(t, b.s, false)
	b.mustBeAlike(t, names...)
}

func TestOpenBehindClose(t *testing.T) {
	s := New()
	mustDeclare(t, s, "x", 1, api.OK)
	for n := range 200 {
		mustOpen(t, s, api.OK)
		mustDepth(t, s, 1)
		mustHere(t, s)
		mustMiss(t, s, "y")
		mustFind(t, s, "x", 1, 0)
		mustDeclare(t, s, "y", n, api.OK)
		mustDeclare(t, s, "x", -n, api.OK)
		mustFind(t, s, "y", n, 1)
		mustFind(t, s, "x", -n, 1)
		mustHere(t, s, "y", "x")
		mustClose(t, s, true)
	}
	mustMiss(t, s, "y")
	mustFind(t, s, "x", 1, 0)
	mustHere(t, s, "x")
}

// A level's names don't come back with one above it either.
func TestDeeperLevelsBehindClose(t *testing.T) {
	s := New()
	for level := 1; level <= deepest; level++ {
		mustOpen(t, s, api.OK)
		mustDeclare(t, s, "x", level, api.OK)
		mustDeclare(t, s, fmt.Sprint("n", level), level, api.OK)
	}
	for range deepest {
		mustClose(t, s, true)
	}
	mustClose(t, s, false)
	for level := 1; level <= deepest; level++ {
		mustOpen(t, s, api.OK)
		mustHere(t, s)
		mustMiss(t, s, "x")
		for other := 1; other <= deepest; other++ {
			mustMiss(t, s, fmt.Sprint("n", other))
		}
	}
	mustOpen(t, s, api.ErrDeep)
}

func TestNil(t *testing.T) {
	var s *Scope
	for range 2 {
		mustOpen(t, s, api.ErrArg)
		mustClose(t, s, false)
		mustDepth(t, s, -1)
		for _, name := range []string{"x", "", "1", longest, tooLong} {
			mustDeclare(t, s, name, 1, api.ErrArg)
			mustMiss(t, s, name)
		}
		mustHere(t, s)
	}
}
