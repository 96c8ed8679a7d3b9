package iface

import (
	"reflect"
	"testing"

	"spinet/api"
)

// roomy is the list with spare room behind it that is filled, too.
func roomy[T any](l []T, spare T) []T {
	out := make([]T, len(l), len(l)+3)
	copy(out, l)
	for i := len(l); i < cap(out); i++ {
		out[:cap(out)][i] = spare
	}
	return out
}

// roomyFace has spare room in each list, filled with what would be wrong, were it
// looked at.
func roomyFace(f api.Face) api.Face {
	f.Uses, f.Types, f.Objs = roomy(f.Uses, api.Used{Name: "?"}), roomy(f.Types, api.Ty{Form: 99, Elem: -1}), roomy(f.Objs, varOf("spare", -1, -1))
	for a := range f.Types {
		f.Types[a].Fields, f.Types[a].Params = roomy(f.Types[a].Fields, field("?", -1)), roomy(f.Types[a].Params, value(-1))
	}
	return f
}

// whole is the interface, in memory of its own, with its lists' spare room.
func whole(f api.Face) api.Face {
	f.Uses, f.Types, f.Objs = level(f.Uses[:cap(f.Uses)]), level(f.Types[:cap(f.Types)]), level(f.Objs[:cap(f.Objs)])
	for a := range f.Types {
		x := &f.Types[a]
		x.Fields, x.Params = level(x.Fields[:cap(x.Fields)]), level(x.Params[:cap(x.Params)])
	}
	return f
}

func fill[T any](l []T, x T) {
	l = l[:cap(l)]
	for i := range l {
		l[i] = x
	}
}

// fillAll writes over each list of the interface and its spare room.
func fillAll(f api.Face) {
	for _, x := range f.Types {
		fill(x.Fields, field("over", 77))
		fill(x.Params, variable(77))
	}
	fill(f.Types, api.Ty{Form: 77})
	fill(f.Uses, api.Used{Name: "over"})
	fill(f.Objs, varOf("over", 77, 77))
}

func faces() []api.Face {
	out := []api.Face{{}, {Name: "A", Types: head()}, rich(), manyParts(), mod(with(record("A", -1, 0), pointer(7)), varOf("v", 8, 0)), mod(with(record("B", -1, 0)))}
	for _, turn := range []func(f *api.Face){
		func(f *api.Face) { f.Objs[3].N = -1 }, func(f *api.Face) { f.Uses[1].Name = "A" }, func(f *api.Face) { f.Types[8].Elem = 99 }, func(f *api.Face) { f.Types[14].Desc = 7 },
	} {
		f := rich()
		turn(&f)
		out = append(out, f)
	}
	return append(out, records([]string{"A", "B", "A"}))
}

// P16.1, P16.2: no argument is changed, its spare room neither, and what stands
// there is not looked at.
func TestArgumentsStayAsTheyAre(t *testing.T) {
	for i, f := range faces() {
		given := roomyFace(f)
		before := whole(given)
		if Good(given) != Good(f) {
			t.Errorf("face %d: Good with spare room", i)
		}
		mustSame(t, given, f, true)
		mustFind(t, given, "spare", api.Obj{}, false)
		got, err := Trim(given)
		if want, wantErr := Trim(f); !alike(got, want) || err != wantErr {
			t.Errorf("face %d: Trim with spare room: %s, %v", i, say(got), err)
		}
		if !reflect.DeepEqual(whole(given), before) {
			t.Errorf("face %d was changed: %s", i, say(given))
		}
	}
}

// P16.2: what Trim answers shares no memory with its argument or with another
// answer.
func TestTrimSharesNoMemory(t *testing.T) {
	for i, f := range faces() {
		given := roomyFace(f)
		before := whole(given)
		one, err := Trim(given)
		two, _ := Trim(given)
		want := flat(two)
		fillAll(one)
		if !alike(two, want) {
			t.Errorf("rule 2: face %d: two answers share memory", i)
		}
		if !reflect.DeepEqual(whole(given), before) {
			t.Errorf("rule 2: face %d: an answer shares its argument's memory", i)
		}
		fillAll(given)
		if !alike(two, want) {
			t.Errorf("rule 2: face %d: an argument shares its answer's memory", i)
		}
		if again, err2 := Trim(f); !alike(again, want) || err != err2 {
			t.Errorf("face %d: Trim again: %s, %v", i, say(again), err2)
		}
	}
}

// Of a trimmed one, too: its types are where they were.
func TestTrimOfTrimSharesNoMemory(t *testing.T) {
	one, _ := Trim(rich())
	two, _ := Trim(one)
	want := flat(one)
	fillAll(two)
	if !alike(one, want) {
		t.Error("rule 2: Trim of Trim shares its argument's memory")
	}
}

// No two lists of one answer share memory: writing over one leaves the others.
func TestTrimsListsAreApart(t *testing.T) {
	f, _ := Trim(mod(with(record("A", 0, 0, field("a", 1)), record("A", 1, 0, field("a", 1)), proc(0, value(7)), proc(0, value(7))), typeOf("w", 7), typeOf("x", 8), typeOf("y", 9), typeOf("z", 10)))
	want := flat(f)
	for a := range f.Types {
		fill(f.Types[a].Fields, field("over", 5))
		fill(f.Types[a].Params, value(5))
		for b, x := range f.Types {
			if b > a && (!reflect.DeepEqual(level(x.Fields), want.Types[b].Fields) || !reflect.DeepEqual(level(x.Params), want.Types[b].Params)) {
				t.Errorf("rule 2: types %d and %d share memory", a, b)
			}
		}
	}
}
