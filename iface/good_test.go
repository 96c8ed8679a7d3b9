package iface

import (
	"fmt"
	"strings"
	"testing"

	"spinet/api"
)

func TestGoodOnes(t *testing.T) {
	mustBe(t, rich(), true)
	mustBe(t, api.Face{Name: "A", Types: head()}, true)
	mustBe(t, api.Face{Name: "A", Uses: []api.Used{}, Types: head(), Objs: []api.Obj{}}, true)
	mustBe(t, api.Face{}, false)
	mustBe(t, api.Face{Types: head()}, false)
	mustBe(t, api.Face{Name: "A"}, false)
}

// P16.1: any key does, and keys of modules don't tell them apart.
func TestGoodKeys(t *testing.T) {
	mustTakeChanges(t, []change{
		{"key 0", func(f *api.Face) { f.Key = 0 }, true},
		{"key of all ones", func(f *api.Face) { f.Key = 1<<32 - 1 }, true},
		{"a used key 0", func(f *api.Face) { f.Uses[0].Key = 0 }, true},
		{"two used keys alike", func(f *api.Face) { f.Uses[0].Key = f.Uses[1].Key }, true},
		{"a used key as the module's", func(f *api.Face) { f.Uses[0].Key = f.Key }, true},
	})
}

// P16.1: the names of the module, of modules that it uses, of objects.
func TestGoodNames(t *testing.T) {
	for _, w := range words() {
		mustBe(t, api.Face{Name: w.text, Types: head()}, w.want)
		mustTakeChanges(t, []change{
			{"a used name " + short(w.text), func(f *api.Face) { f.Uses = append(f.Uses, api.Used{Name: w.text}) }, w.want},
			{"an object's name " + short(w.text), func(f *api.Face) { f.Objs[0].Name = w.text }, w.want},
			{"the last object's name " + short(w.text), func(f *api.Face) { f.Objs[len(f.Objs)-1].Name = w.text }, w.want},
		})
	}
	// Which letters and digits there are.
	for c := range 256 {
		one := string([]byte{byte(c)})
		letter := strings.Contains("abcdefghijklmnopqrstuvwxyzABCDEFGHIJKLMNOPQRSTUVWXYZ", one)
		mustGood(t, api.Face{Name: one, Types: head()}, letter)
		mustGood(t, api.Face{Name: "x" + one, Types: head()}, letter || strings.Contains("0123456789", one))
	}
}

func short(s string) string { return fmt.Sprintf("%.30q", s) }

// P16.1
func TestGoodUses(t *testing.T) {
	many := func(n int) func(f *api.Face) {
		return func(f *api.Face) {
			for len(f.Uses) < n {
				f.Uses = append(f.Uses, api.Used{Name: fmt.Sprint("M", len(f.Uses))})
			}
		}
	}
	mustTakeChanges(t, []change{
		{"one less than MaxMods", many(api.MaxMods - 1), true},
		{"MaxMods", many(api.MaxMods), true},
		{"one more than MaxMods", many(api.MaxMods + 1), false},
		{"far more than MaxMods", many(1000), false},
		{"one twice", func(f *api.Face) { f.Uses = append(f.Uses, f.Uses[0]) }, false},
		{"one twice, beside each other", func(f *api.Face) { f.Uses = append(f.Uses, f.Uses[1]) }, false},
		{"one twice, with another key", func(f *api.Face) { f.Uses = append(f.Uses, api.Used{Name: "C", Key: 77}) }, false},
		{"one and the same in small letters", func(f *api.Face) { f.Uses = append(f.Uses, api.Used{Name: "b"}) }, true},
		{"the module itself", func(f *api.Face) { f.Uses = append(f.Uses, api.Used{Name: "A"}) }, false},
		{"the module itself, with its key", func(f *api.Face) { f.Uses = append([]api.Used{{Name: "A", Key: 5}}, f.Uses...) }, false},
		{"the module called as one that it uses", func(f *api.Face) { f.Name = "B" }, false},
		{"one that no type is of", func(f *api.Face) { f.Uses = append(f.Uses, api.Used{Name: "D"}) }, true},
		{"an object's name", func(f *api.Face) { f.Uses = append(f.Uses, api.Used{Name: "v"}) }, true},
		{"in another order", func(f *api.Face) { f.Uses[0], f.Uses[1] = f.Uses[1], f.Uses[0] }, true},
	})
}

// P16.1: what types.Good refuses.
func TestGoodWantsAGoodTable(t *testing.T) {
	mustTakeChanges(t, []change{
		{"none", func(f *api.Face) { *f = mod(nil) }, false},
		{"six of the seven", func(f *api.Face) { *f = mod(head()[:6]) }, false},
		{"another one of the seven", func(f *api.Face) { f.Types[3].Form = 4 }, false},
		{"a form that there is none of", func(f *api.Face) { f.Types = append(f.Types, api.Ty{Form: 12}) }, false},
		{"one of the seven once more", func(f *api.Face) { f.Types = append(f.Types, api.Ty{Form: 1}) }, false},
		{"an array in itself", func(f *api.Face) { f.Types[12].Elem = 12 }, false},
		{"a place outside", func(f *api.Face) { f.Types[12].Elem = 19 }, false},
		{"a part that a form does not have", func(f *api.Face) { f.Types[12].Result = 1 }, false},
		{"a Mod without a Name", func(f *api.Face) { f.Types[12].Mod = "A" }, false},
		{"a Name without a Mod", func(f *api.Face) { f.Types[12].Name = "T" }, false},
		{"a record without a Mod", func(f *api.Face) { f.Types[15].Mod = "" }, false},
		{"a type's Name that is none", func(f *api.Face) { f.Types[8].Name = "a b" }, false},
		{"two records with one Mod and Desc", func(f *api.Face) { f.Types = append(f.Types, record("C", 0, 0)) }, false},
		{"a Desc of MaxDesc", func(f *api.Face) { f.Types[15].Desc = api.MaxDesc }, false},
		{"MaxTypes", func(f *api.Face) { fillTable(f, api.MaxTypes) }, true},
		{"one more than MaxTypes", func(f *api.Face) { fillTable(f, api.MaxTypes+1) }, false},
	})
}

func fillTable(f *api.Face, n int) {
	for len(f.Types) < n {
		f.Types = append(f.Types, array(2, 1))
	}
}

// ofForm is a type of each form, for the place free of the rich ones.
func ofForm(form int) api.Ty {
	switch form {
	case api.FmArray:
		return array(5, 1)
	case api.FmOpen:
		return open(1)
	case api.FmPointer:
		return pointer(7)
	case api.FmProc:
		return proc(0)
	}
	return record("A", 3, 0)
}

func lastForms() []int {
	return []int{api.FmArray, api.FmOpen, api.FmRecord, api.FmPointer, api.FmProc}
}

// P16.1: each type with a Mod has the module's or that of one of Uses.
func TestGoodModsOfTypes(t *testing.T) {
	mods := []word{{"A", true}, {"B", true}, {"C", true}, {"D", false}, {"a", false}, {"b", false}, {"v", false}, {"R", false}, {longest, false}}
	for _, form := range lastForms() {
		for _, m := range mods {
			x := named(ofForm(form), m.text, "New")
			mustTakeChanges(t, []change{{fmt.Sprint("form ", form, " of ", m.text), func(f *api.Face) { f.Types = append(f.Types, x) }, m.want}})
		}
	}
	mustTakeChanges(t, []change{
		{"no module is used", func(f *api.Face) { f.Uses = nil }, false},
		{"one is not used any more", func(f *api.Face) { f.Uses = f.Uses[:1] }, false},
		{"another one is not used any more", func(f *api.Face) { f.Uses = f.Uses[1:] }, false},
		{"the module is another one", func(f *api.Face) { f.Name = "D" }, false},
		{"a record without a name, of another module", func(f *api.Face) { f.Types[15].Mod = "D" }, false},
		{"a record without a name, of a module that is used", func(f *api.Face) { f.Types[15].Mod = "B" }, true},
	})
	// Of types that nothing needs, too.
	mustBe(t, mod(with(named(array(2, 1), "D", "T"))), false)
	mustBe(t, mod(with(record("D", 0, 0))), false)
	mustBe(t, mod(with(array(2, 1), record("C", 0, 0))), true)
}

// P16.1: two types with one Mod and one Name, of every two forms. "No two types
// but FmRecords" are those that are none, "no two FmRecords" those that are: a
// record and another one are no such two.
func TestGoodTwoOfOneName(t *testing.T) {
	for _, one := range lastForms() {
		for _, two := range lastForms() {
			for _, m := range []string{"A", "B"} {
				// ofForm's pointer leads to the record at 7.
				f := mod(with(ofForm(api.FmRecord), named(ofForm(one), m, "T"), named(ofForm(two), m, "T")))
				number(f.Types)
				mustBe(t, isTable(t, f), (one == api.FmRecord) != (two == api.FmRecord))
				f.Types[9].Name = "U"
				mustBe(t, isTable(t, f), true)
				f.Types[9] = named(f.Types[9], "C", "T")
				number(f.Types)
				mustBe(t, isTable(t, f), true)
			}
		}
	}
}

// number gives each module's records their numbers in the order in which they
// stand.
func number(l tys) {
	next := map[string]int{}
	for a, x := range l {
		if x.Form == api.FmRecord {
			l[a].Desc = next[x.Mod]
			next[x.Mod]++
		}
	}
}

// P16.1
func TestGoodNamesOfTypes(t *testing.T) {
	mustBe(t, isTable(t, mod(with(record("A", 0, 0), record("A", 1, 0), record("A", 2, 0)))), true)
	mustBe(t, isTable(t, mod(with(record("B", 0, 0), record("B", 9, 0), record("B", 2, 0)))), true)
	mustBe(t, isTable(t, mod(with(record("A", 0, 0), named(record("A", 1, 0), "A", "T"), record("A", 2, 0)))), true)
	mustBe(t, isTable(t, mod(with(named(record("B", 0, 0), "B", "T"), named(record("B", 1, 0), "B", "T")))), false)
	mustBe(t, isTable(t, mod(with(named(record("A", 0, 0), "A", "T"), named(record("B", 1, 0), "B", "T"), named(record("C", 1, 0), "C", "T")))), true)
	mustBe(t, isTable(t, mod(with(array(2, 1), array(2, 1), open(1), open(1), proc(0), proc(0)))), true)
	// Mod and Name are held apart, whatever they are behind each other.
	f := mod(with(named(array(2, 1), "A", "BT"), named(array(2, 1), "AB", "T")))
	f.Uses = append(f.Uses, api.Used{Name: "AB"})
	mustBe(t, isTable(t, f), true)
	// A type may be called as a module, an object, a field.
	mustBe(t, isTable(t, mod(with(named(array(2, 1), "A", "A"), named(array(2, 1), "A", "B"), named(array(2, 1), "B", "A"), named(array(2, 1), "A", "v")), varOf("v", 1, 0))), true)
	// The two are far from each other, and one of them is the last type.
	f = mod(with(named(array(2, 1), "A", "T")))
	fillTable(&f, api.MaxTypes-1)
	f.Types = append(f.Types, named(array(2, 1), "A", "T"))
	mustBe(t, isTable(t, f), false)
	f.Types[api.MaxTypes-1].Name = "t"
	mustBe(t, isTable(t, f), true)
}

// P16.1: the numbers of records. Trim does not look at the module's own.
func TestGoodDescs(t *testing.T) {
	own := func(l ...int) api.Face {
		f := mod(head())
		for i, n := range l {
			f.Types = append(f.Types, record("A", n, 0), record("B", 2*i, 0))
		}
		return isTable(t, f)
	}
	for _, x := range []struct {
		l    []int
		want bool
	}{
		{nil, true}, {[]int{0}, true}, {[]int{0, 1}, true}, {[]int{0, 1, 2, 3}, true},
		{[]int{-1}, false}, {[]int{1}, false}, {[]int{63}, false}, {[]int{1, 0}, false}, {[]int{0, 2}, false}, {[]int{0, 2, 1}, false}, {[]int{1, 2, 3}, false}, {[]int{0, -1}, false}, {[]int{-1, 0}, false}, {[]int{0, 1, -1}, false}, {[]int{0, 1, 63}, false}, {[]int{-1, -1}, false},
	} {
		f := own(x.l...)
		mustGood(t, f, x.want)
		want := mod(head())
		mustTrim(t, f, want)
	}
	for n := -1; n < api.MaxDesc; n++ {
		f := rich()
		f.Types[9].Desc = n
		mustBe(t, isTable(t, f), n != -1)
		f = rich()
		f.Types[15].Desc = n
		mustBe(t, isTable(t, f), n != -1)
		// One that nothing needs.
		mustBe(t, isTable(t, mod(with(record("B", n, 0)))), n != -1)
	}
	l := make([]int, api.MaxDesc)
	for i := range l {
		l[i] = i
	}
	f := mod(head())
	for _, n := range l {
		f.Types = append(f.Types, record("A", n, 0))
	}
	mustBe(t, isTable(t, f), true)
	f.Types[7], f.Types[8] = f.Types[8], f.Types[7]
	mustGood(t, isTable(t, f), false)
}
