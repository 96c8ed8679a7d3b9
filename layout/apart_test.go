package layout

import (
	"testing"

	"spinet/api"
)

// namesOf are the fields' of a record and of its bases.
func namesOf(l tys, a int) []string {
	var names []string
	for ; a != 0; a = l[a].Base {
		for _, f := range l[a].Fields {
			names = append(names, f.Name)
		}
	}
	return names
}

// mustKeepApart lays each record's fields over a list of bytes (P14.2), and holds
// its base's fields against the base (P14.3).
func mustKeepApart(t *testing.T, l tys) {
	t.Helper()
	for a, x := range l {
		if x.Form != api.FmRecord || Size(l, a) > api.MaxBytes {
			continue
		}
		taken := make([]bool, Size(l, a))
		for _, name := range namesOf(l, a) {
			at, typ, ok := Offset(l, a, name)
			n := Size(l, typ)
			if !ok || at < 0 || at+n > len(taken) {
				t.Errorf("P14.2: field %s of %d: %d bytes at %d of %d of %s", name, a, n, at, len(taken), say(l))
				continue
			}
			for i := at; i < at+n; i++ {
				if taken[i] {
					t.Errorf("P14.2: field %s of %d: byte %d is another one's, too, in %s", name, a, i, say(l))
					break
				}
				taken[i] = true
			}
		}
		mustBeginAsItsBase(t, l, a)
	}
}

func mustBeginAsItsBase(t *testing.T, l tys, a int) {
	t.Helper()
	base := l[a].Base
	if base == 0 {
		return
	}
	if Size(l, base) > Size(l, a) {
		t.Errorf("P14.3: %d has %d bytes, its base %d, in %s", a, Size(l, a), Size(l, base), say(l))
	}
	for _, name := range namesOf(l, base) {
		at, typ, ok := Offset(l, base, name)
		if !ok {
			t.Errorf("P14.3: field %s of %d: none, in %s", name, base, say(l))
		}
		mustLie(t, l, a, name, at, typ)
	}
	for _, f := range l[a].Fields {
		if at, _, _ := Offset(l, a, f.Name); at < Size(l, base) {
			t.Errorf("P14.3: field %s of %d lies at %d, in its base's %d bytes, in %s", f.Name, a, at, Size(l, base), say(l))
		}
	}
}

// P14.2, P14.3
func TestFieldsKeepApart(t *testing.T) {
	for _, l := range goodTables() {
		mustKeepApart(t, isGood(t, l))
	}
	for _, types := range [][]int{{3}, {2, 3}, {3, 2, 3}, {2, 2, 2, 2}, {3, 3, 3, 3, 3}, {1, 3}, {3, 1}, {3, 1, 2}, {1}, nil} {
		for n := 1; n <= api.MaxExt+1; n++ {
			mustKeepApart(t, isGood(t, bases(n, types...)))
		}
	}
	// Two records of one base go each its own way behind it.
	l := isGood(t, with(record(0, fields('a', 3, 2)...), record(7, fields('c', 3)...), record(7, fields('c', 1)...), record(8, fields('d', 9)...)))
	mustKeepApart(t, l)
	mustLie(t, l, 8, "c", 4, 3)
	mustLie(t, l, 9, "c", 4, 1)
}

// P14.2: variables, too.
func TestVarsKeepApart(t *testing.T) {
	l := isGood(t, zoo())
	given := []int{3, 7, 2, 2, 9, 3, 1, 3, 3, 3, 3, 3, 10, 2, 11, 0, 3, 8, 2, 4}
	at, n := Vars(l, given)
	taken := make([]bool, n)
	for i, a := range given {
		for k := range Size(l, a) {
			if taken[at[i]+k] {
				t.Errorf("P14.2: byte %d", at[i]+k)
			}
			taken[at[i]+k] = true
		}
	}
}
