package rider

import (
	"math/rand"
	"slices"
	"strings"
	"testing"

	"spinet/api"
)

// The tests hold the package against models of their own. A compact number is
// cut by division, its size is found by its ends, and it is put together by
// products and sums, in 64 bits; a text is walked through byte by byte; a
// reader is a text and a place.

const (
	least    = -1 << 63
	greatest = 1<<63 - 1
)

var (
	longest = strings.Repeat("t", api.MaxString)
	tooLong = longest + "t"
)

// The least and the greatest number of that many bytes.
func ends(size int) (int, int) {
	if size >= 5 {
		return -2147483648, 2147483647
	}
	n := 64
	for range size - 1 {
		n *= 128
	}
	return -n, n - 1
}

func sizeOf(n int) int {
	for size := 1; size <= 5; size++ {
		if lo, hi := ends(size); lo <= n && n <= hi {
			return size
		}
	}
	return 0
}

func remainder(n, by int) int {
	return (n%by + by) % by
}

func modelNum(n int) (string, bool) {
	size := sizeOf(n)
	if size == 0 {
		return "", false
	}
	var out []byte
	for range size - 1 {
		out = append(out, byte(128+remainder(n, 128)))
		n = (n - remainder(n, 128)) / 128
	}
	return string(append(out, byte(remainder(n, 128)))), true
}

func modelWord(x uint32) string {
	return string([]byte{byte(x % 256), byte(x / 256 % 256), byte(x / 65536 % 256), byte(x / 16777216)})
}

type model struct {
	text string
	at   int
	bad  bool
}

// What the calls tell, and how many bytes they pass over; false, if it is not
// there or not so.
func (m *model) num() (int, int, bool) {
	n, weight := 0, 1
	for size := 1; size <= 5 && m.at+size <= len(m.text); size++ {
		b := int(m.text[m.at+size-1])
		n, weight = n+b%128*weight, weight*128
		if b >= 128 {
			continue
		}
		if b >= 64 {
			n -= weight
		}
		return n, size, sizeOf(n) == size
	}
	return 0, 0, false
}

func (m *model) word() (uint32, bool) {
	if m.at+4 > len(m.text) {
		return 0, false
	}
	x := uint32(0)
	for i := 3; i >= 0; i-- {
		x = x*256 + uint32(m.text[m.at+i])
	}
	return x, true
}

func (m *model) string() (string, bool) {
	var s []byte
	for i := m.at; i < len(m.text); i++ {
		if m.text[i] == 0 {
			return string(s), len(s) <= 64
		}
		s = append(s, m.text[i])
	}
	return "", false
}

func (m *model) raw(n int) (string, bool) {
	if n < 0 || n > len(m.text)-m.at {
		return "", false
	}
	var s []byte
	for i := range n {
		s = append(s, m.text[m.at+i])
	}
	return string(s), true
}

func (m *model) pass(n int, ok bool) bool {
	if !ok {
		m.bad = true
		return false
	}
	m.at += n
	return true
}

type sort int

const (
	aByte sort = iota
	aNum
	aWord
	aText
	aRaw
	sorts
)

// An item is a call, and what it puts or tells.
type item struct {
	sort sort
	n    int
	x    uint32
	s    string
}

func (it item) write(w *Writer) {
	switch it.sort {
	case aByte:
		w.Byte(it.n)
	case aNum:
		w.Num(it.n)
	case aWord:
		w.Word(it.x)
	case aText:
		w.Text(it.s)
	}
}

// The bytes that are put; false, if the writer is spoilt by it.
func (it item) bytes() (string, bool) {
	switch it.sort {
	case aNum:
		return modelNum(it.n)
	case aWord:
		return modelWord(it.x), true
	case aText:
		return it.s + "\x00", len(it.s) <= 64 && !strings.Contains(it.s, "\x00")
	}
	return string([]byte{byte(remainder(it.n, 256))}), true
}

// How many bytes a Raw takes stands in n.
func read(r *Reader, s sort, n int) item {
	switch s {
	case aByte:
		return item{sort: s, n: r.Byte()}
	case aNum:
		return item{sort: s, n: r.Num()}
	case aWord:
		return item{sort: s, x: r.Word()}
	case aText:
		return item{sort: s, s: r.Text()}
	}
	return item{sort: aRaw, s: r.Raw(n)}
}

func (m *model) read(s sort, n int) item {
	it := item{sort: s}
	if m.bad {
		return it
	}
	switch s {
	case aByte:
		if got, ok := m.raw(1); m.pass(1, ok) {
			it.n = int(got[0])
		}
	case aNum:
		if got, size, ok := m.num(); m.pass(size, ok) {
			it.n = got
		}
	case aWord:
		if got, ok := m.word(); m.pass(4, ok) {
			it.x = got
		}
	case aText:
		if got, ok := m.string(); m.pass(len(got)+1, ok) {
			it.s = got
		}
	case aRaw:
		if got, ok := m.raw(n); m.pass(n, ok) {
			it.s = got
		}
	}
	return it
}

func mustStand(t *testing.T, r *Reader, at int, bad, end bool) {
	t.Helper()
	if r.At() != at || r.Bad() != bad || r.End() != end {
		t.Errorf("P8.2: At %d, Bad %v, End %v, want %d, %v, %v", r.At(), r.Bad(), r.End(), at, bad, end)
	}
}

// One call of both, and where they stand behind it.
func mustAgree(t *testing.T, r *Reader, m *model, s sort, n int) {
	t.Helper()
	from := m.at
	if got, want := read(r, s, n), m.read(s, n); got != want {
		t.Errorf("P8.2: %#v (%d) at %d of %.200x: want %#v", got, n, from, m.text, want)
	}
	mustStand(t, r, m.at, m.bad, !m.bad && m.at == len(m.text))
}

// A fresh reader of the text: one call.
func mustReadAs(t *testing.T, text string, s sort, n int) {
	t.Helper()
	mustAgree(t, Read(text), &model{text: text}, s, n)
}

// It is bad, at this place, for good: whatever is called, in any order.
func mustStayBad(t *testing.T, r *Reader, at int) {
	t.Helper()
	mustStand(t, r, at, true, false)
	for first := range sorts {
		for _, n := range []int{0, 1, 2, -1, least, greatest} {
			if got := read(r, first, n); got != (item{sort: first}) {
				t.Errorf("P8.2: a bad reader tells %#v", got)
			}
			mustStand(t, r, at, true, false)
		}
	}
}

func mustTell(t *testing.T, w *Writer, want string, code api.Errno) {
	t.Helper()
	if s, err := w.Bytes(); s != want || err != code {
		t.Errorf("P8.1: Bytes: %d bytes %.100x, %v, want %d bytes %.100x, %v", len(s), s, err, len(want), want, code)
	}
}

func mustPut(t *testing.T, it item, want string) {
	t.Helper()
	w := Write()
	it.write(w)
	mustTell(t, w, want, api.OK)
	if model, ok := it.bytes(); model != want || !ok {
		t.Errorf("the model parts from the test at %#v: %x, %v", it, model, ok)
	}
}

// Alone, with bytes ahead and behind, and behind more than MaxFile.
func mustSpoil(t *testing.T, it item) {
	t.Helper()
	if _, ok := it.bytes(); ok {
		t.Errorf("the model parts from the test at %#v", it)
	}
	for _, ahead := range []int{0, 1, api.MaxFile, api.MaxFile + 1, api.MaxFile + 100} {
		w := filled(ahead)
		it.write(w)
		mustTell(t, w, "", api.ErrArg)
		for _, next := range plainItems() {
			next.write(w)
			mustTell(t, w, "", api.ErrArg)
		}
	}
}

func plainItems() []item {
	return []item{{sort: aByte, n: 1}, {sort: aNum, n: 300}, {sort: aWord, x: 5}, {sort: aText, s: "a"}, {sort: aText}}
}

func filled(n int) *Writer {
	w := Write()
	for range n {
		w.Byte('f')
	}
	return w
}

// Numbers at and round every power of two, both signs, and both ends of int.
func edgeNumbers() []int {
	l := []int{least, least + 1, greatest - 1, greatest}
	for shift := range 63 {
		for d := -2; d <= 2; d++ {
			l = append(l, 1<<shift+d, -(1<<shift)+d)
		}
	}
	slices.Sort(l)
	return slices.Compact(l)
}

func someNumber(r *rand.Rand) int {
	return int(int32(r.Uint32())) >> r.Intn(32)
}

func someText(r *rand.Rand) string {
	s := make([]byte, r.Intn(api.MaxString+1)/(1+r.Intn(8)))
	for i := range s {
		s[i] = byte(1 + r.Intn(255))
	}
	return string(s)
}

func someItem(r *rand.Rand) item {
	switch s := sort(r.Intn(int(aRaw))); s {
	case aNum:
		return item{sort: s, n: someNumber(r)}
	case aWord:
		return item{sort: s, x: r.Uint32() >> r.Intn(32)}
	case aText:
		return item{sort: s, s: someText(r)}
	}
	return item{sort: aByte, n: r.Intn(256)}
}
