package consts

import (
	"math"
	"testing"

	"spinet/api"
)

type pairs = [][2]int

func TestSet(t *testing.T) { // P12.5
	for _, x := range []struct {
		l    pairs
		want answer
	}{
		{nil, is(word(0))}, {pairs{}, is(word(0))}, {pairs{{0, 0}}, is(elems(0))}, {pairs{{31, 31}}, is(elems(31))}, {pairs{{0, 31}}, is(word(full))}, {pairs{{0, 3}, {5, 5}}, is(elems(0, 1, 2, 3, 5))},
		{pairs{{1, 31}}, is(word(full - 1))}, {pairs{{0, 30}}, is(word(greatest))}, {pairs{{30, 31}}, is(elems(30, 31))},
		{pairs{{3, 1}}, is(word(0))}, {pairs{{1, 0}}, is(word(0))}, {pairs{{31, 0}}, is(word(0))}, {pairs{{31, 30}}, is(word(0))}, {pairs{{4, 4}, {3, 1}}, is(elems(4))}, {pairs{{31, 0}, {4, 5}, {2, 1}}, is(elems(4, 5))},
		{pairs{{0, 3}, {2, 5}}, is(elems(0, 1, 2, 3, 4, 5))}, {pairs{{2, 5}, {0, 3}}, is(elems(0, 1, 2, 3, 4, 5))}, {pairs{{7, 7}, {7, 7}}, is(elems(7))}, {pairs{{0, 31}, {4, 6}}, is(word(full))}, {pairs{{4, 6}, {5, 4}}, is(elems(4, 5, 6))},
	} {
		mustSet(t, x.l, x.want)
	}
}

func TestSetOfEachPair(t *testing.T) { // P12.5
	for from := range 32 {
		for to := range 32 {
			var l []int
			for e := range 32 {
				if from <= e && e <= to {
					l = append(l, e)
				}
			}
			mustSet(t, pairs{{from, to}}, is(elems(l...)))
			mustSet(t, pairs{{from, to}, {to, from}}, is(elemsBetween(min(from, to), max(from, to))))
		}
	}
}

func elemsBetween(from, to int) api.Value {
	var l []int
	for e := from; e <= to; e++ {
		l = append(l, e)
	}
	return elems(l...)
}

func TestSetBeyondItsEnds(t *testing.T) { // P12.5
	for _, n := range []int{-1, 32, -31, -32, 33, 63, 64, -1 << 32, 1 << 32, 1<<32 + 1, math.MinInt, math.MaxInt} {
		for _, m := range []int{0, 1, 15, 31, n} {
			for _, p := range (pairs{{n, m}, {m, n}}) {
				mustSet(t, pairs{p}, fails(api.ErrRange))
				mustSet(t, pairs{p, {1, 2}}, fails(api.ErrRange))
				mustSet(t, pairs{{1, 2}, p}, fails(api.ErrRange))
				mustSet(t, pairs{{1, 2}, {0, 31}, {3, 1}, p}, fails(api.ErrRange))
				mustSet(t, pairs{{1, 2}, p, {0, 31}}, fails(api.ErrRange))
			}
		}
	}
	mustSet(t, pairs{{math.MinInt, math.MaxInt}}, fails(api.ErrRange))
	mustSet(t, pairs{{math.MaxInt, math.MinInt}}, fails(api.ErrRange))
}

func TestSetOfManyPairs(t *testing.T) { // P12.5
	l := make(pairs, 1<<16)
	for i := range l {
		l[i] = [2]int{i % 8, i%8 + 1}
	}
	mustSet(t, l, is(elemsBetween(0, 8)))
	l[len(l)-1] = [2]int{32, 0}
	mustSet(t, l, fails(api.ErrRange))
}

// A set is what it was made of, element by element.
func TestSetAndIn(t *testing.T) { // P12.3, P12.5
	s, err := Set(pairs{{2, 4}, {9, 9}, {30, 31}})
	if err != api.OK || !Good(s) {
		t.Fatal(s, err)
	}
	for e := range 32 {
		in := 0
		if e >= 2 && e <= 4 || e == 9 || e >= 30 {
			in = 1
		}
		mustTwo(t, "IN", num(e), s, is(truth(in)))
	}
}
