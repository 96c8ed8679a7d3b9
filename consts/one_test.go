package consts

import (
	"testing"

	"spinet/api"
)

func TestOne(t *testing.T) { // P12.2
	for _, x := range []struct {
		op   string
		v    api.Value
		want answer
	}{
		{"+", num(0), is(num(0))}, {"+", num(3), is(num(3))}, {"+", num(-3), is(num(-3))}, {"+", num(least), is(num(least))}, {"+", num(greatest), is(num(greatest))},
		{"-", num(0), is(num(0))}, {"-", num(3), is(num(-3))}, {"-", num(-3), is(num(3))}, {"-", num(greatest), is(num(-greatest))}, {"-", num(-greatest), is(num(greatest))}, {"-", num(least), fails(api.ErrRange)},
		{"-", word(0), is(word(full))}, {"-", word(full), is(word(0))}, {"-", elems(0), is(word(full - 1))}, {"-", elems(31), is(word(greatest))}, {"-", word(0x55555555), is(word(0xaaaaaaaa))},
		{"~", truth(0), is(truth(1))}, {"~", truth(1), is(truth(0))},
	} {
		mustOne(t, x.op, x.v, x.want)
	}
}

func TestOneOfOtherForms(t *testing.T) { // P12.1, P12.2
	has := map[string][]int{"+": {api.FmInt}, "-": {api.FmInt, api.FmSet}, "~": {api.FmBool}}
	for _, op := range signs() {
		for _, v := range goodValues() {
			_, err := One(op, v)
			known := false
			for _, form := range has[op] {
				known = known || form == v.Form
			}
			if (err != api.ErrConst) != known {
				t.Errorf("P12.2: One(%.20q): %s: %v", op, say(v), err)
			}
		}
		for _, v := range badValues() {
			mustOne(t, op, v, fails(api.ErrConst))
		}
	}
}

func TestMinusTwice(t *testing.T) { // P12.2
	for _, v := range goodValues() {
		for _, op := range []string{"-", "~"} {
			if once, err := One(op, v); err == api.OK {
				mustOne(t, op, once, is(v))
			}
		}
	}
}
