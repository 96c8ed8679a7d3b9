package store

import (
	"fmt"
	"math/rand"
	"slices"
	"strings"
	"testing"

	"spinet/api"
)

var (
	longest  = strings.Repeat("n", api.MaxName)
	tooLong  = longest + "n"
	greatest = strings.Repeat("t", api.MaxFile)
	tooGreat = greatest + "t"
)

func TestExamples(t *testing.T) {
	s := with(t)
	mustPut(t, s, "A.Mod", "x", api.OK)
	mustPut(t, s, "1", "", api.ErrFile)
	mustHave(t, s, entry{"A.Mod", "x"})
}

func TestNames(t *testing.T) {
	for _, s := range []string{"a", "z", "A", "Z", "A.Mod", "aZ", "Za", "a0", "a9", "Z9...", "a.", "a..b", "q0Q9z.A", longest, "A" + strings.Repeat(".", api.MaxName-1)} {
		mustName(t, s, true)
	}
	for _, s := range []string{"", "0", "9", "1a", ".", ".a", "..", "a b", "a-b", "a_b", "a/b", "ä", "aä", "\u212a", "a\u0660", "a\n", "\na", "a\x00", "\x00", tooLong, strings.Repeat("a", 1<<17), "A" + strings.Repeat(".", api.MaxName)} {
		mustName(t, s, false)
	}
}

func TestEveryByteOfAName(t *testing.T) {
	const letters = "ABCDEFGHIJKLMNOPQRSTUVWXYZabcdefghijklmnopqrstuvwxyz"
	for b := range 256 {
		c := string([]byte{byte(b)})
		first := strings.Contains(letters, c)
		behind := first || strings.Contains("0123456789.", c)
		for _, rest := range []string{"", "a", "a.Z9", longest[1:]} {
			mustName(t, c+rest, first)
		}
		for _, x := range [][2]string{{"a", ""}, {"a", "b"}, {"Ab.", "c9"}, {longest[1:], ""}, {longest[9:], longest[16:]}} {
			mustName(t, x[0]+c+x[1], behind)
		}
	}
}

func TestNewHasNoFiles(t *testing.T) {
	s := with(t)
	if l := s.Names(); len(l) != 0 {
		t.Errorf("P7.1: Names of New: %q", l)
	}
	for _, name := range []string{"", "A", "1", longest, tooLong} {
		mustMiss(t, s, name)
		mustDelete(t, s, name, false)
	}
	other := with(t)
	mustPut(t, s, "A", "x", api.OK)
	mustHave(t, other)
}

func TestNil(t *testing.T) {
	var s *Store
	for _, name := range []string{"A", "", "1", longest, tooLong} {
		mustPut(t, s, name, "", api.ErrArg)
		mustPut(t, s, name, tooGreat, api.ErrArg)
		mustMiss(t, s, name)
		mustDelete(t, s, name, false)
	}
	if l := s.Names(); len(l) != 0 {
		t.Errorf("P7.1: Names of nil: %q", l)
	}
	if s.Fork() != nil {
		t.Error("P7.1: Fork of nil is not nil")
	}
}

func TestNoName(t *testing.T) {
	held := []entry{{"a", "1"}, {longest, "2"}}
	s := with(t, held...)
	for _, name := range []string{"", "1", ".a", "a\x00", "a\x00\x00", "\x00a", "a ", " a", tooLong, longest + "\x00", longest + "xyz", strings.Repeat("a", 1<<17)} {
		mustPut(t, s, name, "no", api.ErrFile)
		mustPut(t, s, name, tooGreat, api.ErrFile)
		mustMiss(t, s, name)
		mustDelete(t, s, name, false)
		mustHave(t, s, held...)
	}
}

func TestLengths(t *testing.T) {
	s := with(t, entry{"B", "old"})
	mustPut(t, s, "A", greatest, api.OK)
	mustPut(t, s, "A", tooGreat, api.ErrLong)
	mustPut(t, s, "B", tooGreat, api.ErrLong)
	mustPut(t, s, "C", tooGreat, api.ErrLong)
	mustPut(t, s, "D", strings.Repeat("\x00", 4*api.MaxFile), api.ErrLong)
	mustHave(t, s, entry{"A", greatest}, entry{"B", "old"})
	mustMiss(t, s, "C")
	mustPut(t, s, "B", "", api.OK)
	mustPut(t, s, longest, "\x00\xff\n", api.OK)
	mustHave(t, s, entry{"A", greatest}, entry{"B", ""}, entry{longest, "\x00\xff\n"})
}

func numbered(n int) []entry {
	var l []entry
	for i := range n {
		l = append(l, entry{fmt.Sprintf("N%02d", i), fmt.Sprint(i)})
	}
	return l
}

func TestNumberOfFiles(t *testing.T) {
	held := numbered(api.MaxFiles)
	s := with(t, held...)
	for _, name := range []string{"M", "N0", "N", "N000", "n00", longest} {
		mustPut(t, s, name, "", api.ErrMany)
		mustPut(t, s, name, tooGreat, api.ErrLong)
		mustMiss(t, s, name)
	}
	mustPut(t, s, "1", "", api.ErrFile)
	mustPut(t, s, tooLong, tooGreat, api.ErrFile)
	mustPut(t, s, "N07", tooGreat, api.ErrLong)
	mustHave(t, s, held...)
	held[7].text = "anew"
	mustPut(t, s, "N07", "anew", api.OK)
	mustHave(t, s, held...)
	mustDelete(t, s, "M", false)
	mustPut(t, s, "M", "", api.ErrMany)
	mustDelete(t, s, "N63", true)
	mustPut(t, s, "M", "m", api.OK)
	mustPut(t, s, "N63", "", api.ErrMany)
	mustHave(t, s, slices.Insert(held[:63], 0, entry{"M", "m"})...)
}

func TestLastPutIsGot(t *testing.T) {
	s := with(t, entry{"A", "1"}, entry{"B", "2"}, entry{"A", "3"}, entry{"A", "4"})
	mustHave(t, s, entry{"A", "4"}, entry{"B", "2"})
	mustDelete(t, s, "A", true)
	mustMiss(t, s, "A")
	mustHave(t, s, entry{"B", "2"})
	mustDelete(t, s, "A", false)
	mustPut(t, s, "A", "", api.OK)
	mustHave(t, s, entry{"A", ""}, entry{"B", "2"})
	mustDelete(t, s, "A", true)
	mustDelete(t, s, "B", true)
	mustDelete(t, s, "B", false)
	mustHave(t, s)
}

func TestBeginnings(t *testing.T) {
	var held []entry
	for n := 1; n <= api.MaxName; n++ {
		held = append(held, entry{longest[:n], fmt.Sprint(n)})
	}
	s := with(t, held...)
	mustHave(t, s, held...)
	mustMiss(t, s, "N")
	mustMiss(t, s, "nN")
	for i := 0; i < len(held); i += 2 {
		mustDelete(t, s, held[i].name, true)
		mustMiss(t, s, held[i].name)
	}
	for i := 1; i < len(held); i += 2 {
		mustGet(t, s, held[i].name, held[i].text)
	}
	for _, s := range []*Store{with(t, entry{"A.Mod", ""}), with(t, entry{"A", ""})} {
		for _, name := range []string{"A.", "A.Mo", "A.Mod.", "a", "a.mod"} {
			mustMiss(t, s, name)
			mustDelete(t, s, name, false)
		}
	}
}

func TestOrder(t *testing.T) {
	sorted := []string{"A", "A.", "A..", "A.0", "A.A", "A0", "A00", "A9", "AA", "AZ", "Aa", "Az", "B", "Z", "Zz", "a", "a.", "a0", "aA", "aa", "b", "z", "z."}
	for seed := range int64(50) {
		s := New()
		for _, i := range rand.New(rand.NewSource(seed)).Perm(len(sorted)) {
			mustPut(t, s, sorted[i], "", api.OK)
			mustPut(t, s, sorted[i], "again", api.OK)
		}
		for range 3 {
			if got := s.Names(); !slices.Equal(got, sorted) {
				t.Fatalf("P7.1: Names: %q, want %q", got, sorted)
			}
		}
	}
	mustHave(t, with(t, entry{"x", "1"}), entry{"x", "1"})
}

func TestNamesAreNew(t *testing.T) {
	held := []entry{{"A", "1"}, {"B", "2"}, {"C", "3"}}
	s := with(t, held...)
	one, two := s.Names(), s.Names()
	for i := range one[:cap(one)] {
		one[:cap(one)][i] = "X"
	}
	if !slices.Equal(two, []string{"A", "B", "C"}) {
		t.Errorf("rule 2: two answers share memory: %q", two)
	}
	mustHave(t, s, held...)
}

func TestFork(t *testing.T) {
	held := []entry{{"A", "1"}, {"B", "2"}, {"C", "3"}}
	for way := range 2 {
		s := with(t, held...)
		f := s.Fork()
		if f == nil || f == s {
			t.Fatal("P7.1: Fork is nil, or the store itself")
		}
		mustHave(t, f, held...)
		if way == 1 {
			s, f = f, s
		}
		mustPut(t, s, "A", "anew", api.OK)
		mustPut(t, s, "D", "4", api.OK)
		mustDelete(t, s, "B", true)
		mustHave(t, f, held...)
		mustMiss(t, f, "D")
		mustHave(t, s, entry{"A", "anew"}, entry{"C", "3"}, entry{"D", "4"})
		g := s.Fork()
		mustHave(t, g, entry{"A", "anew"}, entry{"C", "3"}, entry{"D", "4"})
		mustPut(t, g, "A", "g", api.OK)
		mustDelete(t, g, "C", true)
		mustPut(t, s, "E", "5", api.OK)
		mustHave(t, g, entry{"A", "g"}, entry{"D", "4"})
		mustHave(t, s, entry{"A", "anew"}, entry{"C", "3"}, entry{"D", "4"}, entry{"E", "5"})
		mustHave(t, f, held...)
	}
}

func TestForkOfNoneAndOfAll(t *testing.T) {
	none := with(t)
	f := none.Fork()
	if f == nil {
		t.Fatal("P7.1: Fork of a store without files is nil")
	}
	mustHave(t, f)
	mustPut(t, f, "A", "1", api.OK)
	mustHave(t, none)
	held := numbered(api.MaxFiles)
	all := with(t, held...)
	g := all.Fork()
	mustPut(t, g, "M", "", api.ErrMany)
	mustDelete(t, all, "N00", true)
	mustPut(t, all, "M", "", api.OK)
	mustPut(t, g, "M", "", api.ErrMany)
	mustHave(t, g, held...)
}

type pair struct {
	s *Store
	l list
}

func (p *pair) step(t *testing.T, r *rand.Rand, name string) {
	t.Helper()
	switch r.Intn(5) {
	case 0, 1:
		text := []string{"", name, fmt.Sprint(r.Intn(1000)), greatest, tooGreat}[r.Intn(5)]
		next, want := p.l.put(name, text)
		p.l = next
		mustPut(t, p.s, name, text, want)
	case 2:
		next, want := p.l.without(name)
		p.l = next
		mustDelete(t, p.s, name, want)
	case 3:
		if want, ok := p.l.get(name); ok {
			mustGet(t, p.s, name, want)
		} else {
			mustMiss(t, p.s, name)
		}
	case 4:
		if got := p.s.Names(); !slices.Equal(got, p.l.names()) {
			t.Errorf("P7.1: Names: %q, want %q", got, p.l.names())
		}
	}
}

func someName(r *rand.Rand) string {
	const bytes = "AZaz09."
	if r.Intn(30) == 0 {
		return []string{"", "0", "A ", "A\x00", tooLong, longest}[r.Intn(6)]
	}
	name := ""
	for range 1 + r.Intn(3) {
		name += bytes[r.Intn(len(bytes)):][:1]
	}
	return name
}

func TestWalks(t *testing.T) {
	for seed := range int64(20) {
		r := rand.New(rand.NewSource(seed))
		pairs := []*pair{{New(), nil}}
		for range 3000 {
			p := pairs[r.Intn(len(pairs))]
			p.step(t, r, someName(r))
			if r.Intn(500) == 0 {
				pairs = append(pairs, &pair{p.s.Fork(), slices.Clone(p.l)})
			}
			if t.Failed() {
				t.Fatalf("in the walk of seed %d", seed)
			}
		}
		for _, p := range pairs {
			mustHave(t, p.s, p.l...)
		}
	}
}
