package consts

import (
	"cmp"
	"strings"

	"spinet/api"
)

func addRelations(m map[key]operation) {
	for _, form := range [...]int{api.FmInt, api.FmBool, api.FmChar, api.FmSet, api.FmNil, api.FmText} {
		m[key{form, form, "="}] = tells(func(a, b api.Value) bool { return a == b })
		m[key{form, form, "#"}] = tells(func(a, b api.Value) bool { return a != b })
	}
	for _, form := range [...]int{api.FmInt, api.FmChar, api.FmText} {
		m[key{form, form, "<"}] = tells(func(a, b api.Value) bool { return order(a, b) < 0 })
		m[key{form, form, "<="}] = tells(func(a, b api.Value) bool { return order(a, b) <= 0 })
		m[key{form, form, ">"}] = tells(func(a, b api.Value) bool { return order(a, b) > 0 })
		m[key{form, form, ">="}] = tells(func(a, b api.Value) bool { return order(a, b) >= 0 })
	}
}

// A form has a number or a text: in what it does not have, two constants are
// the same.
func order(a, b api.Value) int {
	return cmp.Or(cmp.Compare(a.N, b.N), strings.Compare(a.Text, b.Text))
}
