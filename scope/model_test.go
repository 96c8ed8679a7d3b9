package scope

import (
	"regexp"
	"slices"
	"testing"

	"spinet/api"
)

// The tests hold the package against a list of lists that is searched from its
// end: there is no map in it, a level that is closed is cut off, and the limits
// are written out. What a name is, a pattern says.

var pattern = regexp.MustCompile(`\A[A-Za-z][A-Za-z0-9]{0,23}\z`)

type entry struct {
	name string
	n    int
}

type model [][]entry

func newModel() model { return model{nil} }

func (m *model) open() api.Errno {
	if len(*m) == 64 {
		return api.ErrDeep
	}
	*m = append(*m, nil)
	return api.OK
}

func (m *model) close() bool {
	if len(*m) == 1 {
		return false
	}
	*m = (*m)[:len(*m)-1]
	return true
}

func (m *model) declare(name string, n int) api.Errno {
	last := &(*m)[len(*m)-1]
	switch {
	case !pattern.MatchString(name):
		return api.ErrName
	case slices.ContainsFunc(*last, func(e entry) bool { return e.name == name }):
		return api.ErrTwice
	case len(*last) == 256:
		return api.ErrMany
	}
	*last = append(*last, entry{name, n})
	return api.OK
}

func (m model) find(name string) (n, level int, ok bool) {
	for level := len(m) - 1; level >= 0; level-- {
		for _, e := range m[level] {
			if e.name == name {
				return e.n, level, true
			}
		}
	}
	return 0, 0, false
}

func (m model) here() []string {
	var names []string
	for _, e := range m[len(m)-1] {
		names = append(names, e.name)
	}
	return names
}

// both is a scope and its model, which go the same way.
type both struct {
	s *Scope
	m model
}

func started(t *testing.T) *both {
	t.Helper()
	b := &both{New(), newModel()}
	if b.s == nil {
		t.Fatal("P15.1: New is nil")
	}
	b.mustBeAlike(t)
	return b
}

func (b *both) open(t *testing.T) {
	t.Helper()
	if err, want := b.s.Open(), b.m.open(); err != want {
		t.Errorf("P15.1: Open to level %d: %v, want %v", len(b.m), err, want)
	}
}

func (b *both) close(t *testing.T) {
	t.Helper()
	depth := len(b.m) - 1
	if got, want := b.s.Close(), b.m.close(); got != want {
		t.Errorf("P15.1: Close of level %d: %v", depth, got)
	}
}

func (b *both) declare(t *testing.T, name string, n int) {
	t.Helper()
	if err, want := b.s.Declare(name, n), b.m.declare(name, n); err != want {
		t.Errorf("P15.2: Declare(%.40q, %d) at level %d: %v, want %v", name, n, len(b.m)-1, err, want)
	}
}

func (b *both) find(t *testing.T, name string) {
	t.Helper()
	n, level, ok := b.s.Find(name)
	wantN, wantLevel, wantOK := b.m.find(name)
	if n != wantN || level != wantLevel || ok != wantOK {
		t.Errorf("P15.2: Find(%.40q): %d, %d, %v, want %d, %d, %v", name, n, level, ok, wantN, wantLevel, wantOK)
	}
}

// mustBeAlike asks all that can be asked: of each name of the model, and of those
// that are given.
func (b *both) mustBeAlike(t *testing.T, names ...string) {
	t.Helper()
	if got, want := b.s.Depth(), len(b.m)-1; got != want {
		t.Errorf("P15.1: Depth: %d, want %d", got, want)
	}
	if got, want := b.s.Here(), b.m.here(); !slices.Equal(got, want) {
		t.Errorf("P15.2: Here at level %d: %.200q, want %.200q", len(b.m)-1, got, want)
	}
	for _, level := range b.m {
		for _, e := range level {
			b.find(t, e.name)
		}
	}
	for _, name := range names {
		b.find(t, name)
	}
}

func mustOpen(t *testing.T, s *Scope, want api.Errno) {
	t.Helper()
	if err := s.Open(); err != want {
		t.Errorf("P15.1: Open: %v, want %v", err, want)
	}
}

func mustClose(t *testing.T, s *Scope, want bool) {
	t.Helper()
	if got := s.Close(); got != want {
		t.Errorf("P15.1: Close: %v", got)
	}
}

func mustDepth(t *testing.T, s *Scope, want int) {
	t.Helper()
	if got := s.Depth(); got != want {
		t.Errorf("P15.1: Depth: %d, want %d", got, want)
	}
}

func mustDeclare(t *testing.T, s *Scope, name string, n int, want api.Errno) {
	t.Helper()
	if err := s.Declare(name, n); err != want {
		t.Errorf("P15.2: Declare(%.40q, %d): %v, want %v", name, n, err, want)
	}
}

func mustFind(t *testing.T, s *Scope, name string, n, level int) {
	t.Helper()
	if gotN, gotLevel, ok := s.Find(name); gotN != n || gotLevel != level || !ok {
		t.Errorf("P15.2: Find(%.40q): %d, %d, %v, want %d, %d", name, gotN, gotLevel, ok, n, level)
	}
}

func mustMiss(t *testing.T, s *Scope, name string) {
	t.Helper()
	if n, level, ok := s.Find(name); n != 0 || level != 0 || ok {
		t.Errorf("P15.2: Find(%.40q): %d, %d, %v, want none", name, n, level, ok)
	}
}

func mustHere(t *testing.T, s *Scope, want ...string) {
	t.Helper()
	if got := s.Here(); !slices.Equal(got, want) {
		t.Errorf("P15.2: Here: %.200q, want %.200q", got, want)
	}
}
