package bits

import (
	"math"
	"testing"
)

// The tests hold the package against words as lists of 32 bits, which share
// no shift and no mask with it.
type list [32]bool

func bitsOf(x uint32) list {
	var l list
	for i := range l {
		l[i] = x%2 == 1
		x /= 2
	}
	return l
}

func wordOf(l list) uint32 {
	x := uint32(0)
	for i := len(l) - 1; i >= 0; i-- {
		x *= 2
		if l[i] {
			x++
		}
	}
	return x
}

// made is the word whose bit i is what f tells of i.
func made(f func(i int) bool) uint32 {
	var l list
	for i := range l {
		l[i] = f(i)
	}
	return wordOf(l)
}

// someWords: ordinary ones, and each bit alone, missing alone, and as the end
// of a run of ones.
func someWords() []uint32 {
	l := []uint32{0, 0xffffffff, 0x12345678, 0xdeadbeef, 0x55555555, 0xaaaaaaaa, 0x80000001, 0xc0000000, 0x7ffffffe}
	one := uint32(1)
	for range 32 {
		l = append(l, one, 0xffffffff-one, one-1)
		one *= 2
	}
	return l
}

func someCounts() []uint32 {
	l := []uint32{63, 64, 65, 95, 96, 97, 1000, 1<<16 + 7, 0x7fffffff, 0x80000000, 0x80000001, 0xffffffe0, 0xffffffe1, 0xffffffff}
	for n := range uint32(34) {
		l = append(l, n)
	}
	return l
}

// someSizes: each that a word has, those just beside, and those of which a
// part, or a sum, would be one of them.
func someSizes() []int {
	l := []int{math.MinInt, math.MinInt + 1, math.MinInt + 32, -1 << 32, -1<<32 + 1, -1 << 31, -64, -33, -32, -31, -2, -1,
		63, 64, 65, 1 << 8, 1<<8 + 1, 1 << 31, 1<<31 + 1, 1 << 32, 1<<32 + 1, 1<<32 + 31, 1<<33 + 8, math.MaxInt - 32, math.MaxInt - 31, math.MaxInt - 1, math.MaxInt}
	for n := range 35 {
		l = append(l, n)
	}
	return l
}

func someNumbers() []int {
	l := []int{math.MinInt, math.MinInt + 1, math.MaxInt - 1, math.MaxInt, 12345, -12345}
	for n := range 63 {
		p := 1 << n
		l = append(l, p-1, p, p+1, -p-1, -p, -p+1)
	}
	return l
}

func within(lo, n int) bool {
	for l := range 32 {
		for m := 1; m <= 32; m++ {
			if lo == l && n == m {
				return l+m <= 32
			}
		}
	}
	return false
}

func TestLsl(t *testing.T) { // P1.1
	for _, x := range []struct{ x, n, want uint32 }{
		{0x12345678, 0, 0x12345678}, {0x12345678, 4, 0x23456780}, {0x12345678, 8, 0x34567800},
		{3, 31, 0x80000000}, {3, 32, 3}, {3, 33, 6}, {3, 1000, 0x300}, {1, 0xffffffff, 0x80000000},
		{0x80000000, 1, 0}, {0xffffffff, 31, 0x80000000}, {0, 5, 0},
	} {
		if got := Lsl(x.x, x.n); got != x.want {
			t.Errorf("Lsl(%#x, %d) = %#x, want %#x", x.x, x.n, got, x.want)
		}
	}
}

func TestAsr(t *testing.T) { // P1.1
	for _, x := range []struct{ x, n, want uint32 }{
		{0x80000000, 33, 0xc0000000}, {0x12345678, 0, 0x12345678}, {0x12345678, 4, 0x01234567},
		{0x92345678, 4, 0xf9234567}, {0x80000000, 31, 0xffffffff}, {0x7fffffff, 31, 0}, {0x40000000, 30, 1},
		{0x80000000, 32, 0x80000000}, {0x7fffffff, 33, 0x3fffffff}, {0x92345678, 1000, 0xff923456},
		{0x80000000, 0xffffffff, 0xffffffff}, {0xffffffff, 17, 0xffffffff}, {0, 9, 0},
	} {
		if got := Asr(x.x, x.n); got != x.want {
			t.Errorf("Asr(%#x, %d) = %#x, want %#x", x.x, x.n, got, x.want)
		}
	}
}

func TestRor(t *testing.T) { // P1.1
	for _, x := range []struct{ x, n, want uint32 }{
		{1, 1, 0x80000000}, {0x12345678, 0, 0x12345678}, {0x12345678, 4, 0x81234567}, {0x12345678, 8, 0x78123456},
		{1, 31, 2}, {6, 32, 6}, {1, 33, 0x80000000}, {0x12345678, 1000, 0x78123456}, {1, 0xffffffff, 2},
		{0x80000000, 31, 1}, {0xffffffff, 13, 0xffffffff},
	} {
		if got := Ror(x.x, x.n); got != x.want {
			t.Errorf("Ror(%#x, %d) = %#x, want %#x", x.x, x.n, got, x.want)
		}
	}
}

func TestMovesBitByBit(t *testing.T) { // P1.1
	for _, x := range someWords() {
		l := bitsOf(x)
		for _, n := range someCounts() {
			k := int(n % 32)
			left := made(func(i int) bool { return i >= k && l[i-k] })
			right := made(func(i int) bool { return l[min(i+k, 31)] })
			turned := made(func(i int) bool { return l[(i+k)%32] })
			if got := Lsl(x, n); got != left {
				t.Errorf("Lsl(%#x, %d) = %#x, want %#x", x, n, got, left)
			}
			if got := Asr(x, n); got != right {
				t.Errorf("Asr(%#x, %d) = %#x, want %#x", x, n, got, right)
			}
			if got := Ror(x, n); got != turned {
				t.Errorf("Ror(%#x, %d) = %#x, want %#x", x, n, got, turned)
			}
		}
	}
}

func TestSigned(t *testing.T) { // P1.1
	for _, x := range []struct {
		x    uint32
		want int
	}{{0, 0}, {1, 1}, {7, 7}, {0x7fffffff, 2147483647}, {0x80000000, -2147483648}, {0x80000001, -2147483647}, {0xffffffff, -1}, {0xfffffff9, -7}} {
		if got := Signed(x.x); got != x.want {
			t.Errorf("Signed(%#x) = %d, want %d", x.x, got, x.want)
		}
	}
	for _, x := range someWords() {
		want := int(x)
		if want > 2147483647 {
			want -= 4294967296
		}
		if got := Signed(x); got != want {
			t.Errorf("Signed(%#x) = %d, want %d", x, got, want)
		}
	}
}

func TestWord(t *testing.T) { // P1.1
	for _, x := range []struct {
		n    int
		want uint32
	}{
		{0, 0}, {1, 1}, {-1, 0xffffffff}, {-7, 0xfffffff9}, {2147483647, 0x7fffffff}, {-2147483648, 0x80000000},
		{2147483648, 0x80000000}, {-2147483649, 0x7fffffff}, {4294967295, 0xffffffff}, {4294967296, 0}, {4294967301, 5},
		{-4294967296, 0}, {-4294967297, 0xffffffff}, {math.MaxInt, 0xffffffff}, {math.MinInt, 0}, {math.MinInt + 3, 3},
	} {
		if got := Word(x.n); got != x.want {
			t.Errorf("Word(%d) = %#x, want %#x", x.n, got, x.want)
		}
	}
	for _, n := range someNumbers() {
		// The rest is made from 0 on; sums of n itself could leave int.
		want := (n%4294967296 + 4294967296) % 4294967296
		if got := Word(n); int(got) != want {
			t.Errorf("Word(%d) = %#x, want %#x", n, got, want)
		}
	}
}

func TestGet(t *testing.T) { // P1.2
	for _, x := range []struct {
		x     uint32
		lo, n int
		want  uint32
	}{
		{0x12345678, 8, 8, 0x56}, {0x12345678, 0, 4, 8}, {0x12345678, 0, 32, 0x12345678}, {0x12345678, 28, 4, 1},
		{0x12345678, 1, 31, 0x091a2b3c}, {0x12345678, 0, 31, 0x12345678}, {0x80000000, 31, 1, 1}, {0x7fffffff, 31, 1, 0},
		{0xffffffff, 0, 1, 1}, {0xffffffff, 0, 32, 0xffffffff}, {0xffffffff, 1, 31, 0x7fffffff},
		{0xffffffff, 0, 0, 0}, {0xffffffff, 0, 33, 0}, {0xffffffff, 31, 2, 0}, {0xffffffff, 1, 32, 0}, {0xffffffff, 32, 1, 0},
		{0xffffffff, 32, 0, 0}, {0xffffffff, -1, 1, 0}, {0xffffffff, -1, 2, 0}, {0xffffffff, 0, -1, 0}, {0xffffffff, 33, -1, 0},
		{0xffffffff, math.MaxInt, 1, 0}, {0xffffffff, 1, math.MaxInt, 0}, {0xffffffff, math.MaxInt, math.MaxInt, 0},
		{0xffffffff, math.MinInt, 1, 0}, {0xffffffff, 1, math.MinInt, 0}, {0xffffffff, math.MinInt, math.MinInt, 0},
		{0xffffffff, math.MinInt, math.MaxInt, 0}, {0xffffffff, 1 << 32, 8, 0}, {0xffffffff, 0, 1<<32 + 8, 0},
	} {
		if got := Get(x.x, x.lo, x.n); got != x.want {
			t.Errorf("Get(%#x, %d, %d) = %#x, want %#x", x.x, x.lo, x.n, got, x.want)
		}
	}
}

func TestPut(t *testing.T) { // P1.2
	for _, x := range []struct {
		x     uint32
		lo, n int
		v     uint32
		want  uint32
	}{
		{0x12345678, 8, 8, 0xab, 0x1234ab78}, {0x12345678, 8, 8, 0xffffff00, 0x12340078}, {0xffffffff, 8, 8, 0x100, 0xffff00ff},
		{0, 28, 4, 0xff, 0xf0000000}, {0, 0, 32, 0xdeadbeef, 0xdeadbeef}, {0xffffffff, 0, 32, 7, 7}, {0, 31, 1, 3, 0x80000000},
		{0xffffffff, 31, 1, 2, 0x7fffffff}, {0, 0, 31, 0xffffffff, 0x7fffffff}, {0, 1, 31, 0xffffffff, 0xfffffffe}, {0, 0, 1, 0xffffffff, 1},
		{9, 0, 0, 1, 9}, {9, 0, 33, 1, 9}, {9, 28, 5, 0xff, 9}, {9, 31, 2, 0xff, 9}, {9, 1, 32, 0xff, 9}, {9, 32, 1, 0xff, 9},
		{9, 32, 0, 1, 9}, {9, -1, 1, 0, 9}, {9, -1, 2, 0, 9}, {9, 0, -1, 0, 9}, {9, 33, -1, 0, 9},
		{9, math.MaxInt, 1, 0, 9}, {9, 1, math.MaxInt, 0, 9}, {9, math.MaxInt, math.MaxInt, 0, 9},
		{9, math.MinInt, 1, 0, 9}, {9, 1, math.MinInt, 0, 9}, {9, math.MinInt, math.MinInt, 0, 9},
		{9, math.MinInt, math.MaxInt, 0, 9}, {9, 1 << 32, 8, 0, 9}, {9, 0, 1<<32 + 8, 0, 9},
	} {
		if got := Put(x.x, x.lo, x.n, x.v); got != x.want {
			t.Errorf("Put(%#x, %d, %d, %#x) = %#x, want %#x", x.x, x.lo, x.n, x.v, got, x.want)
		}
	}
}

func TestGetAndPutBitByBit(t *testing.T) { // P1.2
	for _, x := range []uint32{0, 0xffffffff, 0x12345678, 0xdeadbeef, 0x80000001} {
		for _, v := range []uint32{0, 0xffffffff, 0x5a5a5a5a, 0xa5a5a5a5, 0x87654321} {
			xs, vs := bitsOf(x), bitsOf(v)
			for _, lo := range someSizes() {
				for _, n := range someSizes() {
					got, put := uint32(0), x
					if within(lo, n) {
						got = made(func(i int) bool { return i < n && xs[lo+i] })
						put = made(func(i int) bool { return i >= lo && i < lo+n && vs[i-lo] || (i < lo || i >= lo+n) && xs[i] })
					}
					if g := Get(x, lo, n); g != got {
						t.Errorf("Get(%#x, %d, %d) = %#x, want %#x", x, lo, n, g, got)
					}
					if p := Put(x, lo, n, v); p != put {
						t.Errorf("Put(%#x, %d, %d, %#x) = %#x, want %#x", x, lo, n, v, p, put)
					}
				}
			}
		}
	}
}

func TestExtend(t *testing.T) { // P1.3
	for _, x := range []struct {
		v    uint32
		n    int
		want int
	}{
		{0xfff, 12, -1}, {0x7ff, 12, 2047}, {0x800, 12, -2048}, {0x1800, 12, -2048}, {0xfffff7ff, 12, 2047}, {0xabcd0005, 4, 5},
		{0, 1, 0}, {1, 1, -1}, {2, 1, 0}, {0xffffffff, 1, -1}, {0x3fffffff, 31, 1073741823}, {0x40000000, 31, -1073741824}, {0x80000000, 31, 0},
		{0x7fffffff, 32, 2147483647}, {0x80000000, 32, -2147483648}, {0xffffffff, 32, -1}, {5, 32, 5},
		{5, 0, 0}, {5, 33, 0}, {5, -1, 0}, {5, -31, 0}, {5, -32, 0}, {5, 64, 0}, {5, math.MaxInt, 0}, {5, math.MinInt, 0}, {5, 1<<32 + 4, 0},
	} {
		if got := Extend(x.v, x.n); got != x.want {
			t.Errorf("Extend(%#x, %d) = %d, want %d", x.v, x.n, got, x.want)
		}
	}
}

func TestExtendBitByBit(t *testing.T) { // P1.3
	for _, v := range someWords() {
		l := bitsOf(v)
		for _, n := range someSizes() {
			want, weight := 0, 1
			if within(0, n) {
				for i := range n - 1 {
					if l[i] {
						want += weight
					}
					weight *= 2
				}
				if l[n-1] {
					want -= weight
				}
			}
			if got := Extend(v, n); got != want {
				t.Errorf("Extend(%#x, %d) = %d, want %d", v, n, got, want)
			}
		}
	}
}

func TestFits(t *testing.T) { // P1.3
	for _, x := range []struct {
		v, n int
		want bool
	}{
		{0, 1, true}, {-1, 1, true}, {1, 1, false}, {-2, 1, false}, {63, 7, true}, {64, 7, false}, {-64, 7, true}, {-65, 7, false},
		{1073741823, 31, true}, {1073741824, 31, false}, {-1073741824, 31, true}, {-1073741825, 31, false},
		{2147483647, 32, true}, {2147483648, 32, false}, {-2147483648, 32, true}, {-2147483649, 32, false},
		{4294967296, 32, false}, {4294967296, 1, false}, {4294967301, 7, false}, {-4294967296, 32, false}, {4294967295, 1, false},
		{math.MaxInt, 32, false}, {math.MinInt, 32, false}, {math.MaxInt, 1, false}, {math.MinInt, 1, false},
		{0, 0, false}, {0, 33, false}, {0, -1, false}, {0, -31, false}, {0, 64, false}, {-1, 0, false}, {0, math.MaxInt, false}, {0, math.MinInt, false}, {0, 1<<32 + 1, false},
	} {
		if got := Fits(x.v, x.n); got != x.want {
			t.Errorf("Fits(%d, %d) = %v, want %v", x.v, x.n, got, x.want)
		}
	}
	for _, n := range someSizes() {
		low, high := -1, 0
		for i := 2; i <= n && i <= 32; i++ {
			low, high = low*2, high*2+1
		}
		for _, v := range append(someNumbers(), low, high, low-1, high+1) {
			want := within(0, n) && low <= v && v <= high
			if got := Fits(v, n); got != want {
				t.Errorf("Fits(%d, %d) = %v, want %v", v, n, got, want)
			}
		}
	}
}

func TestWhatIsPutIsGot(t *testing.T) { // P1.4
	for _, x := range []uint32{0, 0xffffffff, 0x12345678, 0xdeadbeef} {
		for _, v := range []uint32{0, 0xffffffff, 0x5a5a5a5a, 0x87654321} {
			for lo := range 32 {
				for n := 1; lo+n <= 32; n++ {
					y := Put(x, lo, n, v)
					if got, want := Get(y, lo, n), Get(v, 0, n); got != want {
						t.Errorf("Get(Put(%#x, %d, %d, %#x)) = %#x, want %#x", x, lo, n, v, got, want)
					}
					old, now := bitsOf(x), bitsOf(y)
					for i := range old {
						if (i < lo || i >= lo+n) && old[i] != now[i] {
							t.Errorf("Put(%#x, %d, %d, %#x) changes bit %d", x, lo, n, v, i)
						}
					}
				}
			}
		}
	}
}

func TestTurnedThereAndBack(t *testing.T) { // P1.5
	for _, x := range someWords() {
		for n := range uint32(32) {
			if got := Ror(Ror(x, n), 32-n); got != x {
				t.Errorf("%#x turned by %d and by %d: %#x", x, n, 32-n, got)
			}
		}
	}
}

func TestSignedOfWord(t *testing.T) { // P1.6
	for _, n := range someNumbers() {
		fits := n >= -2147483648 && n <= 2147483647
		if got := Signed(Word(n)); (got == n) != fits {
			t.Errorf("Signed(Word(%d)) = %d", n, got)
		}
	}
	for _, x := range someWords() {
		if got := Word(Signed(x)); got != x {
			t.Errorf("Word(Signed(%#x)) = %#x", x, got)
		}
	}
}

func TestLowerOfAllKinds(t *testing.T) {
	type count int16 // kinds that are named otherwise count too
	for i, got := range []uint32{
		lower(int(-1), 5), lower(int8(-1), 5), lower(int16(-1), 5), lower(int32(-1), 5), lower(int64(-1), 5), lower(count(-1), 5),
		lower(uint(63), 5), lower(uint8(63), 5), lower(uint16(63), 5), lower(uint32(63), 5), lower(uint64(1<<40+31), 5), lower(uintptr(63), 5),
	} {
		if got != 31 {
			t.Errorf("kind %d: %d, want 31", i, got)
		}
	}
	if lower(int64(-1), 0) != 0 || lower(int64(-1), 32) != 0xffffffff || lower(int8(-1), 32) != 0xffffffff {
		t.Error("0 bits, 32 bits")
	}
}
