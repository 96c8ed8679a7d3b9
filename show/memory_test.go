package show

import (
	"reflect"
	"slices"
	"testing"
	"unsafe"

	"spinet/api"
)

// span is the memory of a list, spare room and all, or of a text.
type span struct {
	from, to uintptr
}

func spansOf(things ...any) []span {
	var l []span
	for _, x := range things {
		visit(reflect.ValueOf(x), func(v reflect.Value) {
			switch {
			case v.Kind() == reflect.Slice && v.Cap() > 0:
				from := v.Pointer()
				l = append(l, span{from: from, to: from + uintptr(v.Cap())*v.Type().Elem().Size()})
			case v.Kind() == reflect.String && v.Len() > 0:
				from := uintptr(unsafe.Pointer(unsafe.StringData(v.String())))
				l = append(l, span{from: from, to: from + uintptr(v.Len())})
			}
		})
	}
	return l
}

func TestAnswersAreNewMemory(t *testing.T) {
	for _, s := range append(sources, "MODULE A; END A.") {
		m := roomy(mustParse(t, s))
		first, _ := Tokens(m)
		second, _ := Tokens(m)
		text, _ := Module(m)
		again, _ := Module(m)
		l := spansOf(m, first, second, text, again)
		slices.SortFunc(l, func(a, b span) int {
			if a.from < b.from {
				return -1
			}
			return 1
		})
		for i := 1; i < len(l); i++ {
			if l[i].from < l[i-1].to {
				t.Fatalf("%s: memory is shared", s)
			}
		}
	}
}

func TestArgumentsStayAsTheyAre(t *testing.T) {
	for _, s := range sources {
		good := mustParse(t, s)
		m, before := roomy(good), roomy(good)
		Tokens(m)
		Module(m)
		stretched(&m)
		stretched(&before)
		if !reflect.DeepEqual(m, before) || len(m.Imports) < 2 {
			t.Errorf("%s: changed", s)
		}
	}
	wrong := func() api.Module { return roomy(inConst(binary("~", aName("x"), anInt(1)))) }
	m, before := wrong(), wrong()
	Tokens(m)
	Module(m)
	stretched(&m)
	stretched(&before)
	if !reflect.DeepEqual(m, before) {
		t.Error("a module that is none: changed")
	}
}

// What is done with an answer, spare room and all, does not come back in
// another one.
func TestAnswersStandAlone(t *testing.T) {
	for _, s := range sources {
		m := mustParse(t, s)
		want, _ := Tokens(m)
		kept := slices.Clone(want)
		other, _ := Tokens(m)
		clear(other[:cap(other)])
		again, _ := Tokens(m)
		if !slices.Equal(want, kept) || !slices.Equal(again, kept) {
			t.Errorf("%s: an answer changed another", s)
		}
		text, _ := Module(m)
		if text != modelModule(m)+"\n" {
			t.Errorf("%s: %s", s, text)
		}
	}
}
