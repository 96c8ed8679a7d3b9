// Package bits is layer 1: words of 32 bits. See shared/doc/01-bits.md.
package bits

const (
	wordBits  = 32
	countBits = 5 // 2^5 is wordBits: a count modulo 32 is its lower five bits
)

type integer interface {
	~int | ~int8 | ~int16 | ~int32 | ~int64 |
		~uint | ~uint8 | ~uint16 | ~uint32 | ~uint64 | ~uintptr
}

// The mask needs no case of its own where n is 32: the 1 falls out of the
// word, and 0 less 1 is all ones.
func lower[T integer](v T, n uint) uint32 {
	return uint32(v) & (uint32(1)<<n - 1)
}

// Taken from 32 rather than added to n: lo + n may be no int any more.
func inWord(lo, n int) bool {
	return lo >= 0 && n >= 1 && n <= wordBits-lo
}

func Lsl(x, n uint32) uint32 {
	return x << lower(n, countBits)
}

func Asr(x, n uint32) uint32 {
	return uint32(int32(x) >> lower(n, countBits))
}

// A turn by 0 moves the other part out of the word: it adds nothing then.
func Ror(x, n uint32) uint32 {
	k := lower(n, countBits)
	return x>>k | x<<(wordBits-k)
}

func Signed(x uint32) int {
	return int(int32(x))
}

func Word(n int) uint32 {
	return lower(n, wordBits)
}

func Get(x uint32, lo, n int) uint32 {
	if !inWord(lo, n) {
		return 0
	}
	return lower(x>>lo, uint(n))
}

func Put(x uint32, lo, n int, v uint32) uint32 {
	if !inWord(lo, n) {
		return x
	}
	hole := lower(^uint32(0), uint(n)) << lo
	return x&^hole | lower(v, uint(n))<<lo
}

// Moved up to bit 31 first, so that the move back brings in the sign.
func Extend(v uint32, n int) int {
	if !inWord(0, n) {
		return 0
	}
	over := wordBits - n
	return Signed(v<<over) >> over
}

// Extend tells 0 of a wrong n, which must not make 0 fit there.
func Fits(v, n int) bool {
	return inWord(0, n) && Extend(Word(v), n) == v
}
