package consts

import (
	"math"
	"strings"
	"testing"

	"spinet/api"
)

func TestGood(t *testing.T) { // P12.1
	for _, v := range goodValues() {
		if !Good(v) {
			t.Errorf("P12.1: Good is false: %s", say(v))
		}
	}
	for _, v := range badValues() {
		if Good(v) {
			t.Errorf("P12.1: Good is true: %s", say(v))
		}
	}
}

func TestGoodAtTheEndsOfEachForm(t *testing.T) { // P12.1
	for _, x := range []struct{ form, first, last int }{
		{api.FmInt, -2147483648, 2147483647}, {api.FmBool, 0, 1}, {api.FmChar, 0, 255}, {api.FmSet, 0, 4294967295}, {api.FmNil, 0, 0}, {api.FmText, 0, 0},
	} {
		for _, n := range []int{x.first, x.last, x.first - 1, x.last + 1, math.MinInt, math.MaxInt, x.first - 1<<32, x.last + 1<<32} {
			want := x.first <= n && n <= x.last
			if got := Good(api.Value{Form: x.form, N: n}); got != want {
				t.Errorf("P12.1: Good of form %d with %d = %v", x.form, n, got)
			}
			for _, s := range []string{"a", " ", "\x00", longest} {
				if x.form != api.FmText && Good(api.Value{Form: x.form, N: n, Text: s}) {
					t.Errorf("P12.1: form %d with %d and the text %q is Good", x.form, n, s)
				}
			}
		}
	}
}

func TestGoodOfFormsThatAreNone(t *testing.T) { // P12.1
	for _, form := range []int{math.MinInt, -1 << 32, -256, -7, -6, -5, -4, -3, -2, -1, 0, 7, 8, 9, 10, 11, 12, 255, 256, 257, 1 << 32, 1<<32 + 1, 1<<32 + 6, math.MaxInt} {
		for _, v := range []api.Value{{}, {N: 1}, {N: -1}, {N: 97}, {Text: "a"}, {N: 97, Text: "a"}} {
			v.Form = form
			if Good(v) {
				t.Errorf("P12.1: Good is true: %s", say(v))
			}
		}
	}
}

func TestGoodOfEachByte(t *testing.T) { // P12.1
	for b := range 256 {
		want := b == 32 || b == 33 || b >= 35
		s := string([]byte{byte(b)})
		for _, whole := range []string{s, s + "a", "a" + s, "ab" + s + "cd", s + s, longest[1:] + s, s + longest[1:]} {
			if got := Good(text(whole)); got != want {
				t.Errorf("P12.1: Good of %q = %v", whole, got)
			}
		}
		if Good(text(longest+s)) || Good(text(s+longest)) {
			t.Errorf("P12.1: a text of one byte too many is Good (byte %d)", b)
		}
	}
}

func TestGoodOfLengths(t *testing.T) { // P12.1
	for n := range 200 {
		for _, s := range []string{"a", "\xff", "#"} {
			if got := Good(text(strings.Repeat(s, n))); got != (n <= 64) {
				t.Errorf("P12.1: Good of %d bytes = %v", n, got)
			}
		}
	}
	// Bytes count, not the characters that some of them make.
	if !Good(text(strings.Repeat("\u00e9", 32))) || Good(text(strings.Repeat("\u00e9", 33))) {
		t.Error("P12.1: lengths are not counted in bytes")
	}
}
