package rider

import (
	"math/rand"
	"strings"
	"testing"

	"spinet/api"
)

func TestExamples(t *testing.T) {
	mustPut(t, item{sort: aNum, n: -1}, "\x7f")
	mustPut(t, item{sort: aNum, n: 64}, "\xc0\x00")
	r := Read("\xc0\x80\x00")
	if n := r.Num(); n != 0 {
		t.Errorf("P8.2: c0 80 00 is %d", n)
	}
	mustStayBad(t, r, 0)
}

func TestByteIsModulo256(t *testing.T) {
	for b, want := range map[int]string{
		0: "\x00", 1: "\x01", 127: "\x7f", 128: "\x80", 255: "\xff", 256: "\x00", 257: "\x01", 0x141: "\x41",
		-1: "\xff", -2: "\xfe", -128: "\x80", -255: "\x01", -256: "\x00", -257: "\xff",
		1 << 31: "\x00", 1<<31 - 1: "\xff", -1<<31 - 1: "\xff", 1<<32 + 7: "\x07",
		least: "\x00", least + 1: "\x01", greatest: "\xff", greatest - 1: "\xfe",
	} {
		mustPut(t, item{sort: aByte, n: b}, want)
	}
	for b := -1000; b <= 1000; b++ {
		mustPut(t, item{sort: aByte, n: b}, string([]byte{byte((b + 1024) % 256)}))
	}
}

func TestNumAtEachSize(t *testing.T) {
	for n, want := range map[int]string{
		0: "\x00", 1: "\x01", -1: "\x7f", 2: "\x02", -2: "\x7e", 63: "\x3f", -64: "\x40",
		64: "\xc0\x00", -65: "\xbf\x7f", 127: "\xff\x00", 128: "\x80\x01", -128: "\x80\x7f", -129: "\xff\x7e", 300: "\xac\x02", -300: "\xd4\x7d", 8191: "\xff\x3f", -8192: "\x80\x40",
		8192: "\x80\xc0\x00", -8193: "\xff\xbf\x7f", 1<<20 - 1: "\xff\xff\x3f", -1 << 20: "\x80\x80\x40",
		1 << 20: "\x80\x80\xc0\x00", -1<<20 - 1: "\xff\xff\xbf\x7f", 1<<27 - 1: "\xff\xff\xff\x3f", -1 << 27: "\x80\x80\x80\x40",
		1 << 27: "\x80\x80\x80\xc0\x00", -1<<27 - 1: "\xff\xff\xff\xbf\x7f", 1<<31 - 1: "\xff\xff\xff\xff\x07", -1 << 31: "\x80\x80\x80\x80\x78",
		0x12345678: "\xf8\xac\xd1\x91\x01", -0x12345678: "\x88\xd3\xae\xee\x7e",
	} {
		mustPut(t, item{sort: aNum, n: n}, want)
		r := Read(want)
		if got := r.Num(); got != n {
			t.Errorf("P8.2: %x is read as %d, want %d", want, got, n)
		}
		mustStand(t, r, len(want), false, true)
	}
}

func TestNumOfMoreThan32Bits(t *testing.T) {
	for _, n := range []int{1 << 31, 1<<31 + 1, -1<<31 - 1, -1<<31 - 2, 1<<32 - 1, 1 << 32, 1<<32 + 1, -1 << 32, 1 << 34, 1<<35 - 1, -1 << 34, 1 << 40, -1 << 62, greatest - 1, greatest, least, least + 1} {
		mustSpoil(t, item{sort: aNum, n: n})
	}
}

func TestNumsHeldAgainstTheModel(t *testing.T) {
	l := edgeNumbers()
	r := rand.New(rand.NewSource(1))
	for range 20000 {
		l = append(l, someNumber(r))
	}
	for n := -20000; n <= 20000; n++ {
		l = append(l, n)
	}
	for _, n := range l {
		w := Write()
		w.Num(n)
		s, err := w.Bytes()
		want, ok := modelNum(n)
		if s != want || (err == api.OK) != ok || !ok && err != api.ErrArg {
			t.Fatalf("P8.1: Num(%d): %x, %v, want %x", n, s, err, want)
		}
		mustReadAs(t, s, aNum, 0)
	}
}

func TestWord(t *testing.T) {
	for x, want := range map[uint32]string{
		0: "\x00\x00\x00\x00", 1: "\x01\x00\x00\x00", 0xff: "\xff\x00\x00\x00", 0xff00: "\x00\xff\x00\x00", 0xff0000: "\x00\x00\xff\x00", 0xff000000: "\x00\x00\x00\xff",
		0x80: "\x80\x00\x00\x00", 0x100: "\x00\x01\x00\x00", 0x10000: "\x00\x00\x01\x00", 0x1000000: "\x00\x00\x00\x01",
		0x80000000: "\x00\x00\x00\x80", 0x7fffffff: "\xff\xff\xff\x7f", 0xffffffff: "\xff\xff\xff\xff", 0x04030201: "\x01\x02\x03\x04",
	} {
		mustPut(t, item{sort: aWord, x: x}, want)
		r := Read(want)
		if got := r.Word(); got != x {
			t.Errorf("P8.2: %x is read as %x", want, got)
		}
		mustStand(t, r, 4, false, true)
	}
	for bit := range 32 {
		want := []byte{0, 0, 0, 0}
		want[bit/8] = []byte{1, 2, 4, 8, 16, 32, 64, 128}[bit%8]
		mustPut(t, item{sort: aWord, x: 1 << bit}, string(want))
	}
}

func TestText(t *testing.T) {
	for _, s := range []string{"", "a", "abc", "\x01", "\x7f\x80\xff", "\xff", "ä\u212a", " \n\t", longest[1:], longest, strings.Repeat("\xff", api.MaxString)} {
		mustPut(t, item{sort: aText, s: s}, s+"\x00")
	}
	for b := 1; b < 256; b++ {
		s := string([]byte{byte(b)})
		mustPut(t, item{sort: aText, s: s}, s+"\x00")
		mustPut(t, item{sort: aText, s: "a" + s + "b"}, "a"+s+"b\x00")
	}
}

func TestTextThatIsNone(t *testing.T) {
	for _, s := range []string{
		tooLong, strings.Repeat("t", 2*api.MaxString), strings.Repeat("\xff", api.MaxFile+1),
		"\x00", "\x00\x00", "\x00abc", "a\x00b", "abc\x00", longest[1:] + "\x00", "\x00" + longest[1:], longest + "\x00", "\x00" + longest,
	} {
		mustSpoil(t, item{sort: aText, s: s})
	}
	for n := range api.MaxString {
		mustSpoil(t, item{sort: aText, s: longest[:n] + "\x00" + longest[n+1:]})
	}
}

func TestBytesOfNoCalls(t *testing.T) {
	w := Write()
	if w == nil {
		t.Fatal("P8.1: Write is nil")
	}
	mustTell(t, w, "", api.OK)
	mustTell(t, w, "", api.OK)
}

func TestBytesAreTold(t *testing.T) {
	w, want := Write(), ""
	for _, it := range plainItems() {
		it.write(w)
		s, _ := it.bytes()
		want += s
		mustTell(t, w, want, api.OK)
		mustTell(t, w, want, api.OK)
	}
	if want != "\x01\xac\x02\x05\x00\x00\x00a\x00\x00" {
		t.Errorf("the model parts from the test: %x", want)
	}
}

func TestAnAnswerStays(t *testing.T) {
	w := Write()
	w.Text("first")
	one, _ := w.Bytes()
	w.Text("second")
	two, _ := w.Bytes()
	w.Num(1 << 40)
	mustTell(t, w, "", api.ErrArg)
	if one != "first\x00" || two != "first\x00second\x00" {
		t.Errorf("rule 2: %q, %q", one, two)
	}
}

func TestWritersAreApart(t *testing.T) {
	a, b := Write(), Write()
	a.Byte(1)
	b.Byte(2)
	a.Text("x\x00")
	mustTell(t, a, "", api.ErrArg)
	mustTell(t, b, "\x02", api.OK)
	mustTell(t, Write(), "", api.OK)
}

func TestLengths(t *testing.T) {
	for _, it := range append(plainItems(), item{sort: aNum, n: -1 << 31}, item{sort: aText, s: longest}) {
		s, _ := it.bytes()
		for over := range len(s) + 1 {
			ahead := api.MaxFile - len(s) + over
			w := filled(ahead)
			mustTell(t, w, strings.Repeat("f", ahead), api.OK)
			it.write(w)
			if over == 0 {
				mustTell(t, w, strings.Repeat("f", ahead)+s, api.OK)
				continue
			}
			mustTell(t, w, "", api.ErrLong)
			mustTell(t, w, "", api.ErrLong)
		}
	}
}

func TestTooLongStaysSo(t *testing.T) {
	w := filled(api.MaxFile)
	mustTell(t, w, strings.Repeat("f", api.MaxFile), api.OK)
	w.Byte(0)
	for range 3 {
		for _, it := range plainItems() {
			mustTell(t, w, "", api.ErrLong)
			it.write(w)
		}
	}
	for range api.MaxFile {
		w.Word(0)
	}
	mustTell(t, w, "", api.ErrLong)
	w.Text(tooLong)
	mustTell(t, w, "", api.ErrArg)
	w.Byte(0)
	mustTell(t, w, "", api.ErrArg)
}

func TestSpoiltStaysSo(t *testing.T) {
	w := Write()
	w.Num(greatest)
	for range api.MaxFile + 1 {
		w.Byte(0)
	}
	mustTell(t, w, "", api.ErrArg)
	w.Num(least)
	mustTell(t, w, "", api.ErrArg)
}

func TestNilWriter(t *testing.T) {
	var w *Writer
	mustTell(t, w, "", api.ErrArg)
	calls := append(plainItems(), item{sort: aNum, n: least}, item{sort: aNum, n: greatest}, item{sort: aText, s: tooLong}, item{sort: aText, s: "\x00"})
	for _, it := range calls {
		it.write(w)
		mustTell(t, w, "", api.ErrArg)
	}
}
