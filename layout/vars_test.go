package layout

import (
	"slices"
	"testing"

	"spinet/api"
)

// P14.1
func TestVarsOfEachForm(t *testing.T) {
	l := isGood(t, zoo())
	mustVars(t, l, nil, nil, 0)
	mustVars(t, l, []int{}, nil, 0)
	for a, n := range zooSizes() {
		rounded := (n + 3) / 4 * 4
		mustVars(t, l, []int{a}, []int{0}, rounded)
		if a != api.FmBool && a != api.FmChar {
			mustVars(t, l, []int{a, a, a}, []int{0, n, 2 * n}, 3*n)
			mustVars(t, l, []int{3, a, 3}, []int{0, 4, 4 + n}, 8+n)
		} else {
			mustVars(t, l, []int{a, a, a}, []int{0, 1, 2}, 4)
			mustVars(t, l, []int{3, a, 3}, []int{0, 1, 2}, 4)
		}
		mustVars(t, l, []int{a, 1}, []int{0, rounded}, rounded+4)
	}
}

// P14.1
func TestVarsAmongEachOther(t *testing.T) {
	l := isGood(t, zoo())
	for _, x := range []struct {
		types, at []int
		size      int
	}{
		{[]int{3, 2, 1, 3, 7, 2}, []int{0, 1, 4, 8, 12, 20}, 24},
		{[]int{2, 2, 2, 2, 2}, []int{0, 1, 2, 3, 4}, 8},
		{[]int{3, 3, 3, 3}, []int{0, 1, 2, 3}, 4},
		{[]int{1, 4, 10, 11}, []int{0, 4, 8, 12}, 16},
		{[]int{9, 3, 9, 2, 7, 3, 7}, []int{0, 12, 16, 28, 32, 40, 44}, 52},
		{[]int{0, 5, 6, 8}, []int{0, 0, 0, 0}, 0},
		{[]int{3, 0}, []int{0, 4}, 4},
		{[]int{3, 5, 3, 6, 3, 8, 3}, []int{0, 4, 4, 8, 8, 12, 12}, 16},
		{[]int{7, 7, 7}, []int{0, 8, 16}, 24},
		{[]int{9, 9}, []int{0, 12}, 24},
	} {
		mustVars(t, l, x.types, x.at, x.size)
	}
	// A record with a base has the base's bytes, too.
	l = isGood(t, with(record(0, fields('a', 3)...), record(7, fields('b', 3)...)))
	mustVars(t, l, []int{8, 3, 7, 8}, []int{0, 8, 12, 16}, 24)
}

// P14.1: variables lie as fields of a record without a base do.
func TestVarsLieAsFields(t *testing.T) {
	sets := [][]int{{1}, {3}, {2, 1}, {1, 2}, {3, 3, 7}, {2, 9, 3, 3, 10, 2, 2, 2, 2, 2, 11}, {7, 3, 7, 3, 4}, {9, 9, 2, 2, 1, 3}}
	for _, types := range sets {
		l := isGood(t, zoo(record(0, fields('a', types...)...)))
		at, n := Vars(l, types)
		if len(at) != len(types) || n != Size(l, zooEnd) {
			t.Errorf("P14.1: Vars of %v: %v, %d, and the record has %d bytes", types, at, n, Size(l, zooEnd))
			continue
		}
		for i, a := range types {
			mustLie(t, l, zooEnd, string(rune('a'+i)), at[i], a)
		}
	}
}

// P14.1: one place outside is enough, wherever it stands.
func TestVarsOfWrongPlaces(t *testing.T) {
	l := isGood(t, zoo())
	mustVars(t, l, []int{1, 11, 3}, []int{0, 4, 8}, 12)
	for _, out := range outsides(l) {
		for _, given := range [][]int{{out}, {out, 1, 3}, {1, out, 3}, {1, 3, out}, {out, out}, {0, out}, {out, 0}} {
			mustHaveNoVars(t, l, given)
		}
	}
	mustHaveNoVars(t, head(), []int{7})
	mustVars(t, head(), []int{6}, []int{0}, 0)
}

// P14.1: just MaxBytes, and more.
func TestVarsNearMaxBytes(t *testing.T) {
	// 7 half of MaxBytes, 8 MaxBytes, 9 more, 10 without bytes, 11 4 bytes less than MaxBytes
	l := isGood(t, with(array(api.MaxLen, 1), array(2, 7), array(3, 7), record(0), record(0, fields('a', 7, 12)...), array(4095, 1)))
	mustVars(t, l, []int{8}, []int{0}, api.MaxBytes)
	mustVars(t, l, []int{7, 7}, []int{0, 16384}, api.MaxBytes)
	mustVars(t, l, []int{11, 1}, []int{0, 32764}, api.MaxBytes)
	mustVars(t, l, []int{11, 3}, []int{0, 32764}, api.MaxBytes)
	mustVars(t, l, []int{11, 3, 2, 3, 2}, []int{0, 32764, 32765, 32766, 32767}, api.MaxBytes)
	mustVars(t, l, []int{11, 3, 10}, []int{0, 32764, 32768}, api.MaxBytes)
	mustVars(t, l, []int{3, 11, 0}, []int{0, 4, 32768}, api.MaxBytes)
	mustVars(t, l, []int{10, 8, 10, 0, 5, 6}, []int{0, 0, 32768, 32768, 32768, 32768}, api.MaxBytes)
	for _, given := range [][]int{{9}, {8, 3}, {8, 2}, {8, 1}, {3, 8}, {7, 7, 3}, {7, 7, 7}, {8, 8}, {9, 9}, {11, 1, 1}, {11, 3, 1}, {11, 1, 3}, {3, 11, 3}, {11, 3, 3, 3, 3, 3}, {1, 9}, {9, 1}, {8, 3, 10}} {
		mustHaveNoVars(t, l, given)
	}
	mustVars(t, l, slices.Repeat([]int{1}, api.MaxBytes/4), steps(api.MaxBytes/4, 4), api.MaxBytes)
	mustHaveNoVars(t, l, slices.Repeat([]int{1}, api.MaxBytes/4+1))
	mustVars(t, l, slices.Repeat([]int{3}, api.MaxBytes), steps(api.MaxBytes, 1), api.MaxBytes)
	mustVars(t, l, slices.Repeat([]int{2}, api.MaxBytes-1), steps(api.MaxBytes-1, 1), api.MaxBytes)
	mustHaveNoVars(t, l, slices.Repeat([]int{2}, api.MaxBytes+1))
	// What is wrong behind what is too much changes nothing.
	mustHaveNoVars(t, l, []int{8, 8, -1})
	mustHaveNoVars(t, l, []int{-1, 8, 8})
}

func steps(n, step int) []int {
	var l []int
	for i := range n {
		l = append(l, i*step)
	}
	return l
}

// P14.1: lists of any length, of types with bytes and without.
func TestVarsOfLongLists(t *testing.T) {
	const n = 1 << 20
	l := isGood(t, with(array(api.MaxLen, 8), array(api.MaxLen, 1), record(0)))
	mustVars(t, l, make([]int, n), make([]int, n), 0)
	mustVars(t, l, slices.Repeat([]int{9, 0, 5}, n), make([]int, 3*n), 0)
	mustHaveNoVars(t, l, slices.Repeat([]int{7}, n))
	mustHaveNoVars(t, l, slices.Repeat([]int{8}, n))
	mustHaveNoVars(t, l, append(make([]int, n), -1))
}
