package scope

import (
	"fmt"
	"math/rand"
	"slices"
	"testing"

	"spinet/api"
)

// overwrite fills a list and its spare room.
func overwrite(l []string) {
	l = l[:cap(l)]
	for i := range l {
		l[i] = "X"
	}
}

func TestHereIsNew(t *testing.T) {
	for n := range 20 {
		s := New()
		names := numbered(n)
		for i, name := range names {
			mustDeclare(t, s, name, i, api.OK)
		}
		one, two := s.Here(), s.Here()
		overwrite(one)
		if !slices.Equal(two, names) {
			t.Errorf("rule 2: two answers share memory: %q", two)
		}
		mustHere(t, s, names...)
		mustDeclare(t, s, "Y", 7, api.OK)
		mustHere(t, s, append(names, "Y")...)
		mustMiss(t, s, "X")
		for i, name := range names {
			mustFind(t, s, name, i, 0)
			mustDeclare(t, s, name, i, api.ErrTwice)
		}
		overwrite(two)
		mustHere(t, s, append(names, "Y")...)
	}
}

// A level that was changed while it stood in an answer goes with its own names.
func TestHereChangedAndClosed(t *testing.T) {
	s := New()
	mustDeclare(t, s, "X", 1, api.OK)
	mustOpen(t, s, api.OK)
	for i, name := range []string{"a", "b", "c"} {
		mustDeclare(t, s, name, i, api.OK)
	}
	overwrite(s.Here())
	mustClose(t, s, true)
	mustFind(t, s, "X", 1, 0)
	for _, name := range []string{"a", "b", "c"} {
		mustMiss(t, s, name)
	}
}

func TestHereStays(t *testing.T) {
	for n := range 20 {
		s := New()
		mustOpen(t, s, api.OK)
		names := numbered(n)
		for i, name := range names {
			mustDeclare(t, s, name, i, api.OK)
		}
		told := s.Here()
		mustDeclare(t, s, "y", 1, api.OK)
		mustDeclare(t, s, "z", 1, api.OK)
		mustClose(t, s, true)
		mustOpen(t, s, api.OK)
		for i := range 2 * n {
			mustDeclare(t, s, fmt.Sprint("q", i), i, api.OK)
		}
		if !slices.Equal(told, names) {
			t.Errorf("P15.2: Here of %d names became %q", n, told)
		}
	}
}

func TestTwoScopes(t *testing.T) {
	one, two := started(t), started(t)
	if one.s == two.s {
		t.Fatal("P15.1: New told one scope twice")
	}
	one.declare(t, "x", 1)
	mustMiss(t, two.s, "x")
	mustHere(t, two.s)
	one.open(t)
	one.declare(t, "y", 2)
	mustDepth(t, two.s, 0)
	two.declare(t, "y", 3)
	two.declare(t, "x", 4)
	one.mustBeAlike(t, "x", "y", "z")
	two.mustBeAlike(t, "x", "y", "z")
	two.open(t)
	two.open(t)
	two.declare(t, "z", 5)
	one.close(t)
	one.mustBeAlike(t, "x", "y", "z")
	two.mustBeAlike(t, "x", "y", "z")
	mustClose(t, one.s, false)
	mustClose(t, two.s, true)
}

func someName(r *rand.Rand) string {
	if r.Intn(40) == 0 {
		return []string{"", "0", "A ", "A\x00", "a_", tooLong, longest, "a.b", "\xc3\xa4"}[r.Intn(9)]
	}
	const bytes = "AZaz09"
	name := ""
	for range 1 + r.Intn(3) {
		name += bytes[r.Intn(len(bytes)):][:1]
	}
	return name
}

// step makes one call of a walk that tends to go up (or down) by levels.
func (b *both) step(t *testing.T, r *rand.Rand, up int) {
	t.Helper()
	switch k := r.Intn(100); {
	case k < up:
		b.open(t)
	case k < 20:
		b.close(t)
	case k < 60:
		b.declare(t, someName(r), r.Intn(2000)-1000)
	case k < 90:
		b.find(t, someName(r))
	default:
		b.mustBeAlike(t, someName(r))
	}
}

func TestWalks(t *testing.T) {
	for seed := range int64(40) {
		r := rand.New(rand.NewSource(seed))
		pair := []*both{started(t), started(t)}
		for range 3000 {
			pair[r.Intn(2)].step(t, r, 6+int(seed)%10)
			if t.Failed() {
				t.Fatalf("in the walk of seed %d", seed)
			}
		}
		pair[0].mustBeAlike(t)
		pair[1].mustBeAlike(t)
	}
}

// walkAbove opens a level, walks at it and above it, and closes down to where it
// began: it never closes the level that it found.
func (b *both) walkAbove(t *testing.T, r *rand.Rand) {
	t.Helper()
	floor := len(b.m)
	b.open(t)
	for range 1 + r.Intn(60) {
		switch k := r.Intn(10); {
		case k < 2:
			b.open(t)
		case k < 4 && len(b.m) > floor+1:
			b.close(t)
		default:
			b.declare(t, someName(r), r.Int())
		}
	}
	for len(b.m) > floor {
		b.close(t)
	}
}

// told is all that a scope tells of itself and of these names.
func told(s *Scope, names []string) string {
	out := fmt.Sprintf("%d %q", s.Depth(), s.Here())
	for _, name := range names {
		n, level, ok := s.Find(name)
		out += fmt.Sprintf(" %q %d %d %v", name, n, level, ok)
	}
	return out
}

// everyShort are all names of one and two bytes that someName makes, some longer
// ones, and some that are none.
func everyShort() []string {
	l := []string{"", "0", longest, tooLong, "AZa", "za0"}
	for _, a := range "AZaz" {
		l = append(l, string(a))
		for _, b := range "AZaz09" {
			l = append(l, string(a)+string(b))
		}
	}
	return l
}

// P15.3
func TestBehindOpenAndCloseAllIsAsItWas(t *testing.T) {
	names := everyShort()
	for seed := range int64(60) {
		r := rand.New(rand.NewSource(seed))
		b := started(t)
		for range int(seed) % api.MaxNest {
			for range r.Intn(12) {
				b.declare(t, someName(r), r.Int())
			}
			before := told(b.s, names)
			mustOpen(t, b.s, api.OK)
			mustClose(t, b.s, true)
			if after := told(b.s, names); after != before {
				t.Fatalf("P15.3: seed %d: behind Open and Close: %s, want %s", seed, after, before)
			}
			b.walkAbove(t, r)
			if after := told(b.s, names); after != before {
				t.Fatalf("P15.3: seed %d: behind a walk: %s, want %s", seed, after, before)
			}
			b.open(t)
		}
		b.mustBeAlike(t, names...)
	}
}

// P15.3: also of a level that was full, and of names of the levels beneath.
func TestBehindAFullLevelAllIsAsItWas(t *testing.T) {
	s := New()
	names := numbered(api.MaxTypes)
	for i, name := range names {
		mustDeclare(t, s, name, i, api.OK)
	}
	before := told(s, append(names, "M"))
	for range 3 {
		mustOpen(t, s, api.OK)
		mustDeclare(t, s, "M", 1, api.OK)
		for i, name := range names[1:] {
			mustDeclare(t, s, name, -i, api.OK)
		}
		mustDeclare(t, s, names[0], 1, api.ErrMany)
		mustClose(t, s, true)
		if after := told(s, append(names, "M")); after != before {
			t.Errorf("P15.3: behind a full level: %.400s", after)
		}
	}
	mustDeclare(t, s, "M", 1, api.ErrMany)
}
