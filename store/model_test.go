package store

import (
	"regexp"
	"slices"
	"testing"

	"spinet/api"
)

// The tests hold the package against a list of entries that is searched from
// its beginning and kept in order by putting each new one in its place: there
// is no map in it. What a name is, a pattern says.

var pattern = regexp.MustCompile(`\A[A-Za-z][A-Za-z0-9.]{0,23}\z`)

type entry struct{ name, text string }

type list []entry

func (l list) at(name string) int {
	for i, e := range l {
		if e.name == name {
			return i
		}
	}
	return -1
}

func (l list) get(name string) (string, bool) {
	if i := l.at(name); i >= 0 {
		return l[i].text, true
	}
	return "", false
}

func (l list) put(name, text string) (list, api.Errno) {
	i := l.at(name)
	switch {
	case !pattern.MatchString(name):
		return l, api.ErrFile
	case len(text) > 131072:
		return l, api.ErrLong
	case i >= 0:
		l[i].text = text
		return l, api.OK
	case len(l) == 64:
		return l, api.ErrMany
	}
	i = 0
	for i < len(l) && l[i].name < name {
		i++
	}
	return slices.Insert(l, i, entry{name, text}), api.OK
}

func (l list) without(name string) (list, bool) {
	i := l.at(name)
	if i < 0 {
		return l, false
	}
	return slices.Delete(l, i, i+1), true
}

func (l list) names() []string {
	var names []string
	for _, e := range l {
		names = append(names, e.name)
	}
	return names
}

func mustName(t *testing.T, s string, want bool) {
	t.Helper()
	if pattern.MatchString(s) != want {
		t.Fatalf("the model parts from the test at %q", s)
	}
	if Name(s) != want {
		t.Errorf("P7.1: Name(%q) is %v", s, !want)
	}
}

func mustPut(t *testing.T, s *Store, name, text string, want api.Errno) {
	t.Helper()
	if err := s.Put(name, text); err != want {
		t.Errorf("P7.1: Put(%q, %d bytes): %v, want %v", name, len(text), err, want)
	}
}

func mustGet(t *testing.T, s *Store, name, want string) {
	t.Helper()
	if text, ok := s.Get(name); text != want || !ok {
		t.Errorf("P7.2: Get(%q): %.40q, %v, want %.40q", name, text, ok, want)
	}
}

func mustMiss(t *testing.T, s *Store, name string) {
	t.Helper()
	if text, ok := s.Get(name); text != "" || ok {
		t.Errorf("P7.1: Get(%q): %.40q, %v, want no file", name, text, ok)
	}
}

func mustDelete(t *testing.T, s *Store, name string, want bool) {
	t.Helper()
	if got := s.Delete(name); got != want {
		t.Errorf("P7.1: Delete(%q): %v", name, got)
	}
}

func mustHave(t *testing.T, s *Store, want ...entry) {
	t.Helper()
	if names := s.Names(); !slices.Equal(names, list(want).names()) {
		t.Errorf("P7.1: Names: %q, want %q", names, list(want).names())
	}
	for _, e := range want {
		mustGet(t, s, e.name, e.text)
	}
}

func with(t *testing.T, entries ...entry) *Store {
	t.Helper()
	s := New()
	if s == nil {
		t.Fatal("P7.1: New is nil")
	}
	for _, e := range entries {
		mustPut(t, s, e.name, e.text, api.OK)
	}
	return s
}
