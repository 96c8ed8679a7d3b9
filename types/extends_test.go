package types

import (
	"testing"

	"spinet/api"
)

// P13.3: over no, one, two and MaxExt bases, of records and of pointers.
func TestExtendsAndLevelOfAChain(t *testing.T) {
	const n = api.MaxExt + 1
	l := with(chain(n)...)
	for i := range n {
		l = append(l, pointer(basics+i))
	}
	isGood(t, l)
	for i := range n {
		mustLevel(t, l, basics+i, i)
		mustLevel(t, l, basics+n+i, i)
		for k := range n {
			mustExtend(t, l, basics+i, basics+k, i >= k)
			mustExtend(t, l, basics+n+i, basics+n+k, i >= k)
			mustExtend(t, l, basics+i, basics+n+k, false)
			mustExtend(t, l, basics+n+i, basics+k, false)
		}
	}
}

// P13.3
func TestExtendsBesideEachOther(t *testing.T) {
	// 7, and 8 and 9 that extend it, 10 that extends 8, 11 like 7, 12 that extends 11
	l := isGood(t, with(record(0, field("a", 1)), record(7), record(7), record(8), record(0, field("a", 1)), record(11), pointer(8), pointer(9), pointer(10), pointer(11)))
	for _, x := range []struct {
		a, b int
		want bool
	}{
		{8, 7, true}, {9, 7, true}, {10, 7, true}, {10, 8, true}, {12, 11, true}, {8, 9, false}, {9, 8, false}, {10, 9, false}, {9, 10, false}, {7, 8, false}, {7, 11, false}, {11, 7, false}, {12, 7, false}, {8, 11, false},
		{13, 13, true}, {15, 13, true}, {13, 15, false}, {15, 14, false}, {14, 15, false}, {13, 16, false}, {13, 8, false}, {8, 13, false}, {15, 8, false}, {10, 13, false},
	} {
		mustExtend(t, l, x.a, x.b, x.want)
	}
}

// P13.3: names and numbers don't count, the place does.
func TestExtendsWithNames(t *testing.T) {
	l := isGood(t, with(named(numbered(record(0), 0), "A", "T"), named(numbered(record(7), 1), "B", "T"), named(pointer(7), "A", "P"), named(pointer(7), "A", "Q"), pointer(7), named(pointer(8), "A", "P"), named(record(0), "A", "T")))
	mustExtend(t, l, 8, 7, true)
	mustExtend(t, l, 7, 8, false)
	mustExtend(t, l, 8, 13, false)
	for _, a := range []int{9, 10, 11} {
		for _, b := range []int{9, 10, 11} {
			mustExtend(t, l, a, b, true)
		}
		mustExtend(t, l, 12, a, true)
		mustExtend(t, l, a, 12, false)
	}
	// These are the same by their names, and extend each other one way alone.
	mustSame(t, l, 9, 12, true)
}

// P13.3: other forms extend nothing, not even themselves, and have no level.
func TestExtendsOfOtherForms(t *testing.T) {
	l := isGood(t, zoo(record(api.FmRecord), array(2, zooEnd), open(zooEnd), proc(0, value(zooEnd)), array(2, api.FmRecord)))
	ext := map[[2]int]int{{9, 9}: 1, {10, 10}: 1, {12, 12}: 1, {12, 9}: 1}
	for a := range l {
		for b := range l {
			mustExtend(t, l, a, b, ext[[2]int{a, b}] == 1)
		}
		level := 0
		if a == zooEnd {
			level = 1
		}
		mustLevel(t, l, a, level)
	}
}

// P13.6
func TestExtendsGoesOn(t *testing.T) {
	l := with(chain(api.MaxExt + 1)...)
	l = append(l, record(7), record(8), pointer(9), pointer(8), pointer(13), record(0))
	isGood(t, l)
	for a := range l {
		for b := range l {
			for c := range l {
				if Extends(l, a, b) && Extends(l, b, c) && !Extends(l, a, c) {
					t.Errorf("P13.6: %d extends %d, that %d", a, b, c)
				}
			}
			if Extends(l, a, b) && !Assign(l, a, b) {
				t.Errorf("P13.6: %d extends %d, and is not assigned", a, b)
			}
		}
	}
}
