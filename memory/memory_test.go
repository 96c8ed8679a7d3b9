package memory

import (
	"encoding/binary"
	"math"
	"math/rand"
	"slices"
	"testing"

	"spinet/api"
)

// The tests hold the package against a memory that is a list of bytes, the
// lowest of each word first: there are no words in it, and no shifts.

type byteList []byte

func listOf(words []uint32) byteList {
	var l byteList
	for _, w := range words {
		l = binary.LittleEndian.AppendUint32(l, w)
	}
	return l
}

func (l byteList) has(at uint32) bool { return uint64(at) < uint64(len(l)) }

func (l byteList) load(at uint32) (uint32, bool) {
	if !l.has(at) || at%4 > 0 {
		return 0, false
	}
	return binary.LittleEndian.Uint32(l[at : at+4]), true
}

func (l byteList) store(at, v uint32) bool {
	if !l.has(at) || at%4 > 0 {
		return false
	}
	binary.LittleEndian.PutUint32(l[at:at+4], v)
	return true
}

func (l byteList) byteAt(at uint32) (uint32, bool) {
	if !l.has(at) {
		return 0, false
	}
	return uint32(l[at]), true
}

func (l byteList) put(at, v uint32) bool {
	if !l.has(at) {
		return false
	}
	l[at] = byte(v % 256)
	return true
}

func (l byteList) words() []uint32 {
	var all []uint32
	for i := 0; i < len(l); i += 4 {
		all = append(all, binary.LittleEndian.Uint32(l[i:i+4]))
	}
	return all
}

func made(t *testing.T, words ...uint32) *Memory {
	t.Helper()
	m, err := New(words)
	if err != api.OK || m == nil {
		t.Fatalf("P4.1: New of %d words: %v, %v", len(words), m, err)
	}
	return m
}

func some(n int) []uint32 {
	words := make([]uint32, n)
	for i := range words {
		words[i] = uint32(i+1) * 0x9e3779b1
	}
	return words
}

func all(t *testing.T, m *Memory) []uint32 {
	t.Helper()
	l, ok := m.Words(0, m.Size())
	if !ok {
		t.Fatalf("P4.3: Words(0, %d) is false", m.Size())
	}
	return l
}

func mustBe(t *testing.T, promise string, m *Memory, want []uint32) {
	t.Helper()
	if got := all(t, m); !slices.Equal(got, want) {
		t.Errorf("%s: words %x, want %x", promise, got, want)
	}
}

// Places within n words, round their end, and far behind it: those too that
// would come back into the words if a place were cut or turned round.
func places(n int) []uint32 {
	var l []uint32
	for at := range 4*n + 9 {
		l = append(l, uint32(at))
	}
	for _, far := range []uint32{1 << 8, 1 << 16, 4 * api.MaxWords, 1 << 24, 1 << 30, 1 << 31, 3 << 30, 0xfffffff8} {
		for k := range uint32(8) {
			l = append(l, far+k)
		}
	}
	return l
}

var values = []uint32{0, 1, 0x7f, 0x80, 0xff, 0x100, 0x1ff, 0xabcd, 0x12345678, 0x80000000, 0xffffff00, 0xffffffff}

func TestNewSizes(t *testing.T) {
	for _, n := range []int{0, 1, 2, 7, api.MaxWords - 1, api.MaxWords} {
		words := some(n)
		m, err := New(words)
		if err != api.OK || m == nil || m.Size() != n {
			t.Fatalf("P4.1: New of %d words: %v, Size %d", n, err, m.Size())
		}
		mustBe(t, "P4.1", m, words)
	}
	if m, err := New(nil); err != api.OK || m == nil || m.Size() != 0 {
		t.Errorf("P4.1: New(nil): %v, %v", m, err)
	}
	for _, n := range []int{api.MaxWords + 1, 2 * api.MaxWords} {
		if m, err := New(make([]uint32, n)); err != api.ErrMany || m != nil {
			t.Errorf("P4.1: New of %d words: %v, want ErrMany", n, err)
		}
	}
}

func TestGreatest(t *testing.T) {
	m := made(t, some(api.MaxWords)...)
	last := uint32(4*api.MaxWords - 4)
	if !m.Store(last, 0x04030201) || m.Store(last+4, 1) {
		t.Error("P4.2: Store at the last of MaxWords, and behind it")
	}
	if b, ok := m.Byte(last + 3); b != 4 || !ok {
		t.Errorf("P4.2: last byte of MaxWords: %d, %v", b, ok)
	}
	if _, ok := m.Byte(last + 4); ok || m.PutByte(last+4, 1) {
		t.Error("P4.2: a byte behind MaxWords")
	}
	if l, ok := m.Words(api.MaxWords-1, 1); !ok || !slices.Equal(l, []uint32{0x04030201}) {
		t.Errorf("P4.3: last word of MaxWords: %x, %v", l, ok)
	}
}

func TestNewCopies(t *testing.T) {
	room := []uint32{1, 2, 3, 4, 5}
	m := made(t, room[:3]...)
	m2, _ := New(room[:3])
	room[0], room[4] = 70, 71
	mustBe(t, "P4.1: words changed behind New", m, []uint32{1, 2, 3})
	mustBe(t, "P4.1: words changed behind New", m2, []uint32{1, 2, 3})
	m.Store(4, 80)
	m2.PutByte(8, 81)
	mustBe(t, "P4.1: two memories of the same words", m, []uint32{1, 80, 3})
	mustBe(t, "P4.1: two memories of the same words", m2, []uint32{1, 2, 81})
	if !slices.Equal(room, []uint32{70, 2, 3, 4, 71}) {
		t.Errorf("P4.1: New's argument changed: %v", room)
	}
}

func TestNilMemory(t *testing.T) {
	var m *Memory
	if m.Size() != 0 {
		t.Errorf("P4.1: Size of nil: %d", m.Size())
	}
	for _, at := range places(1) {
		if w, ok := m.Load(at); w != 0 || ok {
			t.Errorf("P4.1: nil: Load(%#x): %x, %v", at, w, ok)
		}
		if b, ok := m.Byte(at); b != 0 || ok {
			t.Errorf("P4.1: nil: Byte(%#x): %x, %v", at, b, ok)
		}
		if m.Store(at, 1) || m.PutByte(at, 1) {
			t.Errorf("P4.1: nil: put at %#x", at)
		}
	}
	if l, ok := m.Words(0, 0); len(l) != 0 || !ok {
		t.Errorf("P4.3: nil: Words(0, 0): %v, %v", l, ok)
	}
	for _, x := range [][2]int{{0, 1}, {1, 0}, {-1, 0}, {-1, 1}, {0, -1}, {math.MaxInt, math.MaxInt}, {math.MinInt, 0}} {
		if l, ok := m.Words(x[0], x[1]); l != nil || ok {
			t.Errorf("P4.3: nil: Words(%v): %v, %v", x, l, ok)
		}
	}
	if m.Fork() != nil {
		t.Error("P4.3: Fork of nil is not nil")
	}
}

func TestReading(t *testing.T) {
	for _, n := range []int{0, 1, 2, 5} {
		words := some(n)
		m, l := made(t, words...), listOf(words)
		for _, at := range places(n) {
			w, ok := m.Load(at)
			if want, there := l.load(at); w != want || ok != there {
				t.Errorf("P4.2: of %d words: Load(%#x): %x, %v, want %x, %v", n, at, w, ok, want, there)
			}
			b, ok := m.Byte(at)
			if want, there := l.byteAt(at); b != want || ok != there {
				t.Errorf("P4.2: of %d words: Byte(%#x): %x, %v, want %x, %v", n, at, b, ok, want, there)
			}
		}
		mustBe(t, "P4.2: only read", m, words)
	}
}

func TestStore(t *testing.T) {
	holdPuts(t, "Store", (*Memory).Store, byteList.store)
}

func TestPutByte(t *testing.T) {
	holdPuts(t, "PutByte", (*Memory).PutByte, byteList.put)
}

func holdPuts(t *testing.T, name string, put func(m *Memory, at, v uint32) bool, want func(l byteList, at, v uint32) bool) {
	for _, n := range []int{0, 1, 2, 5} {
		words := some(n)
		for _, at := range places(n) {
			for _, v := range values {
				m, l := made(t, words...), listOf(words)
				ok := put(m, at, v)
				if ok != want(l, at, v) {
					t.Errorf("P4.2: of %d words: %s(%#x, %#x): %v", n, name, at, v, ok)
				}
				mustBe(t, "P4.2: behind "+name, m, l.words())
				if !ok {
					mustBe(t, "P4.2: false: "+name, m, words)
				}
			}
		}
	}
}

func TestPutByteOverOnesAndZeros(t *testing.T) {
	for _, c := range []struct {
		was, at, v, want uint32
	}{
		{0xffffffff, 0, 0x100, 0xffffff00}, {0xffffffff, 1, 0xab00, 0xffff00ff},
		{0xffffffff, 2, 0x1234, 0xff34ffff}, {0xffffffff, 3, 0xfffffe12, 0x12ffffff},
		{0, 0, 0xffffffff, 0xff}, {0, 1, 0x180, 0x8000}, {0, 2, 0xff, 0xff0000}, {0, 3, 0xff, 0xff000000},
	} {
		m := made(t, 7, c.was, 9)
		if !m.PutByte(4+c.at, c.v) {
			t.Errorf("P4.2: PutByte(%d, %#x) is false", 4+c.at, c.v)
		}
		mustBe(t, "P4.2", m, []uint32{7, c.want, 9})
	}
}

func TestWordsPlaces(t *testing.T) {
	for _, size := range []int{0, 1, 2, 5} {
		words := some(size)
		m := made(t, words...)
		ends := []int{math.MinInt, math.MinInt + 1, math.MinInt + size, -size - 1, -size, -1,
			math.MaxInt - size - 1, math.MaxInt - size, math.MaxInt - 1, math.MaxInt,
			1 << 31, 1 << 32, 1<<32 + 1, -1 << 32, 1 << 62, api.MaxWords}
		for i := range size + 3 {
			ends = append(ends, i)
		}
		for _, at := range ends {
			for _, n := range ends {
				l, ok := m.Words(at, n)
				// One at a time: their sum may be no int.
				if at < 0 || at > size || n < 0 || n > size || at+n > size {
					if l != nil || ok {
						t.Errorf("P4.3: of %d words: Words(%d, %d): %x, %v", size, at, n, l, ok)
					}
					continue
				}
				if !ok || !slices.Equal(l, words[at:at+n]) {
					t.Errorf("P4.3: of %d words: Words(%d, %d): %x, %v", size, at, n, l, ok)
				}
			}
		}
		mustBe(t, "P4.3: only read", m, words)
	}
}

func spoil(l []uint32) {
	l = l[:cap(l)]
	for i := range l {
		l[i] = 0xdeadbeef
	}
}

func TestWordsAreCopied(t *testing.T) {
	words := some(6)
	m := made(t, words...)
	for at := range 7 {
		for n := range 7 - at {
			other, _ := m.Words(0, 6)
			l, _ := m.Words(at, n)
			spoil(l)
			mustBe(t, "P4.3: what Words told was changed", m, words)
			if !slices.Equal(other, words) {
				t.Errorf("P4.3: two answers of Words share: %x", other)
			}
		}
	}
	l := all(t, m)
	m.Store(8, 1)
	m.PutByte(0, 2)
	if !slices.Equal(l, words) {
		t.Errorf("P4.3: what Words told changed with the memory: %x", l)
	}
}

func TestFork(t *testing.T) {
	for _, n := range []int{0, 1, 5, api.MaxWords} {
		words := some(n)
		m := made(t, words...)
		f := m.Fork()
		if f == nil || f == m || f.Size() != n {
			t.Fatalf("P4.3: Fork of %d words: %p of %p", n, f, m)
		}
		mustBe(t, "P4.3: a fork is alike", f, words)
		if n == 0 {
			continue
		}
		last := uint32(4*n - 4)
		f.Store(last, 11)
		f.PutByte(0, ^words[0])
		mustBe(t, "P4.3: stored in the fork", m, words)
		kept := all(t, f)
		m.Store(last, 22)
		m.PutByte(1, ^words[0])
		mustBe(t, "P4.3: stored in what it came of", f, kept)
	}
}

func TestForkOfFork(t *testing.T) {
	m := made(t, 1, 2)
	m.Store(0, 3)
	f := m.Fork()
	m.Store(0, 4)
	f.Store(4, 5)
	g := f.Fork()
	f.Store(0, 6)
	g.PutByte(7, 7)
	mustBe(t, "P4.3", m, []uint32{4, 2})
	mustBe(t, "P4.3", f, []uint32{6, 5})
	mustBe(t, "P4.3", g, []uint32{3, 0x07000005})
}

func TestFourBytesAreTheWord(t *testing.T) {
	for _, w := range append(some(40), values...) {
		m, n := made(t, 5, w, 6), made(t, 5, ^w, 6)
		var whole uint32
		for at := uint32(7); at >= 4; at-- {
			b, ok := m.Byte(at)
			if !ok || b > 255 {
				t.Errorf("P4.4: Byte(%d) of %x: %x, %v", at, w, b, ok)
			}
			whole = 256*whole + b
			n.PutByte(at, b)
		}
		if whole != w {
			t.Errorf("P4.4: bytes of %x make %x", w, whole)
		}
		if got, ok := n.Load(4); got != w || !ok {
			t.Errorf("P4.4: bytes of %x put one by one: %x, %v", w, got, ok)
		}
		mustBe(t, "P4.4: the words beside", n, []uint32{5, w, 6})
	}
}

func TestExample(t *testing.T) {
	m := made(t, 0x04030201)
	if b, ok := m.Byte(2); b != 3 || !ok {
		t.Errorf("example: Byte(2): %d, %v", b, ok)
	}
	for _, at := range []uint32{2, 4} {
		if w, ok := m.Load(at); w != 0 || ok {
			t.Errorf("example: Load(%d): %x, %v", at, w, ok)
		}
	}
}

// Many calls one behind the other, over memories that come of one another.
func TestLongWalk(t *testing.T) {
	const size = 4
	r := rand.New(rand.NewSource(4))
	ms, ls := []*Memory{made(t, some(size)...)}, []byteList{listOf(some(size))}
	for step := range 20000 {
		k := r.Intn(len(ms))
		m, l, at, v := ms[k], ls[k], uint32(r.Intn(4*size+4)), r.Uint32()
		switch r.Intn(5) {
		case 0:
			if ok, want := m.Store(at, v), l.store(at, v); ok != want {
				t.Fatalf("P4.2: step %d: Store(%d): %v", step, at, ok)
			}
		case 1:
			if ok, want := m.PutByte(at, v), l.put(at, v); ok != want {
				t.Fatalf("P4.2: step %d: PutByte(%d): %v", step, at, ok)
			}
		case 2:
			w, ok := m.Load(at)
			if want, there := l.load(at); w != want || ok != there {
				t.Fatalf("P4.2: step %d: Load(%d): %x, %v", step, at, w, ok)
			}
		case 3:
			b, ok := m.Byte(at)
			if want, there := l.byteAt(at); b != want || ok != there {
				t.Fatalf("P4.2: step %d: Byte(%d): %x, %v", step, at, b, ok)
			}
		case 4:
			to := r.Intn(8)
			if to >= len(ms) {
				ms, ls = append(ms, m.Fork()), append(ls, slices.Clone(l))
			} else {
				ms[to], ls[to] = m.Fork(), slices.Clone(l)
			}
		}
		for i := range ms {
			if got := all(t, ms[i]); !slices.Equal(got, ls[i].words()) {
				t.Fatalf("P4.3: step %d: memory %d: %x, want %x", step, i, got, ls[i].words())
			}
		}
	}
}
