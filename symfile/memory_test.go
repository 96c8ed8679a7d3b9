package symfile

import (
	"reflect"
	"testing"

	"spinet/api"
)

// roomy is the list with spare room behind it that is filled, too.
func roomy[T any](l []T, spare T) []T {
	out := make([]T, len(l), len(l)+3)
	copy(out, l)
	for i := len(l); i < cap(out); i++ {
		out[:cap(out)][i] = spare
	}
	return out
}

// roomyFace has spare room in each list, filled with what would be wrong, were it
// looked at.
func roomyFace(f api.Face) api.Face {
	f.Uses, f.Types, f.Objs = roomy(f.Uses, api.Used{Name: "?"}), roomy(f.Types, api.Ty{Form: 99, Elem: -1}), roomy(f.Objs, varOf("spare", -1, -1))
	for a := range f.Types {
		f.Types[a].Fields, f.Types[a].Params = roomy(f.Types[a].Fields, field("?", -1)), roomy(f.Types[a].Params, value(-1))
	}
	return f
}

// whole is the interface, in memory of its own, with its lists' spare room.
func whole(f api.Face) api.Face {
	f.Uses, f.Types, f.Objs = level(f.Uses[:cap(f.Uses)]), level(f.Types[:cap(f.Types)]), level(f.Objs[:cap(f.Objs)])
	for a := range f.Types {
		x := &f.Types[a]
		x.Fields, x.Params = level(x.Fields[:cap(x.Fields)]), level(x.Params[:cap(x.Params)])
	}
	return f
}

func fill[T any](l []T, x T) {
	l = l[:cap(l)]
	for i := range l {
		l[i] = x
	}
}

// fillAll writes over each list of the interface and its spare room.
func fillAll(f api.Face) {
	for _, x := range f.Types {
		fill(x.Fields, shown("over", 77))
		fill(x.Params, variable(77))
	}
	fill(f.Types, api.Ty{Form: 77})
	fill(f.Uses, api.Used{Name: "over"})
	fill(f.Objs, varOf("over", 77, 77))
}

// Rule 2: no argument is changed, its spare room neither, and what stands there
// is not looked at.
func TestArgumentsStayAsTheyAre(t *testing.T) {
	wrong := rich()
	wrong.Objs[3].Value.N = -1
	for i, f := range []api.Face{{}, bare(), rich(), full(), wrong} {
		given := roomyFace(f)
		before := whole(given)
		got, err := Encode(given)
		if want, wantErr := Encode(f); got != want || err != wantErr {
			t.Errorf("face %d: Encode with spare room: %.300q, %v", i, got, err)
		}
		k, err := Key(given)
		if want, wantErr := Key(f); k != want || err != wantErr {
			t.Errorf("face %d: Key with spare room: %d, %v", i, k, err)
		}
		if !reflect.DeepEqual(whole(given), before) {
			t.Errorf("face %d was changed: %s", i, say(given))
		}
	}
}

// Rule 2: what Decode answers shares no memory with another answer.
func TestAnswersAreApart(t *testing.T) {
	for what, s := range files() {
		one, _ := Decode(s)
		two, err := Decode(s)
		want := flat(two)
		fillAll(one)
		three, _ := Decode(s)
		if err != api.OK || !alike(two, want) || !alike(three, want) {
			t.Errorf("%s: two answers share memory", what)
		}
	}
}

// No two lists of one answer share memory, their spare room neither: writing over
// one leaves the others.
func TestListsAreApart(t *testing.T) {
	s := modelFile(rich())
	lists := func(f *api.Face) []func() {
		l := []func(){func() { fill(f.Uses, api.Used{Name: "over"}) }, func() { fill(f.Objs, varOf("over", 77, 77)) }, func() { fill(f.Types[7:7], api.Ty{Form: 77}) }}
		for a := range f.Types {
			l = append(l, func() { fill(f.Types[a].Fields, shown("over", 77)) }, func() { fill(f.Types[a].Params, variable(77)) })
		}
		return l
	}
	var none api.Face
	none, _ = Decode(s)
	for i := range lists(&none) {
		f, _ := Decode(s)
		want := flat(f)
		lists(&f)[i]()
		switch {
		case i == 0:
			f.Uses = want.Uses
		case i == 1:
			f.Objs = want.Objs
		case i == 2:
			f.Types = want.Types
		case (i-3)%2 == 0:
			f.Types[(i-3)/2].Fields = want.Types[(i-3)/2].Fields
		default:
			f.Types[(i-3)/2].Params = want.Types[(i-3)/2].Params
		}
		if !alike(f, want) {
			t.Errorf("rule 2: list %d shares memory with another one", i)
		}
	}
}
