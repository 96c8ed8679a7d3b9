package check

import "spinet/api"

// thing is what a name stands for, and what an expression comes to.
type thing interface {
	// typ is the place of its type; FmNone of what has no value.
	typ() int
}

type constant struct {
	value api.Value
}

type variable struct {
	place    int
	readOnly bool
	passed   bool // a Var Param, or such a one that is guarded
}

type procedure struct {
	place int
}

// value is what is reckoned or answered by a call.
type value struct {
	place int
}

// named is a type. Ahead of its being done it is one for pointers alone.
type named struct {
	place int
	done  bool
}

type module struct {
	face api.Face
}

type standard struct {
	name string
}

// nothing is what a call of a proper procedure comes to.
type nothing struct{}

func (x constant) typ() int  { return x.value.Form }
func (x variable) typ() int  { return x.place }
func (x procedure) typ() int { return x.place }
func (x value) typ() int     { return x.place }
func (x named) typ() int     { return api.FmNone }
func (x module) typ() int    { return api.FmNone }
func (x standard) typ() int  { return api.FmNone }
func (x nothing) typ() int   { return api.FmNone }

// wantValue refuses what has no value.
func wantValue(x thing, at int) {
	switch x.(type) {
	case named, module, standard:
		fail(api.ErrName, at)
	case nothing:
		fail(api.ErrType, at)
	}
}

// letter tells whether it is a text of one byte, which may stand for that
// character. Texts are constants all of them.
func letter(x thing) (api.Value, bool) {
	k, ok := x.(constant)
	if !ok || k.value.Form != api.FmText || len(k.value.Text) != 1 {
		return api.Value{}, false
	}
	return api.Value{Form: api.FmChar, N: int(k.value.Text[0])}, true
}
