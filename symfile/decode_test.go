package symfile

import (
	"math/rand"
	"slices"
	"strings"
	"testing"

	"spinet/api"
	"spinet/iface"
)

// mustDecodeAsModel holds one text against the model; what is read is written as
// it stood there (P17.2). It tells whether it was a symbol file.
func mustDecodeAsModel(t *testing.T, s string) bool {
	t.Helper()
	want, ok := modelDecode(s)
	if !ok {
		mustNotDecode(t, s)
		return false
	}
	mustDecode(t, s, want)
	mustEncode(t, want, s)
	return true
}

func files() map[string]string {
	return map[string]string{"bare": modelFile(bare()), "rich": modelFile(rich()), "full": modelFile(full())}
}

// P17.3: what is cut off, at every place.
func TestWhatIsCutOff(t *testing.T) {
	for what, s := range files() {
		for n := range len(s) {
			mustNotDecode(t, s[:n])
		}
		if t.Failed() {
			t.Fatal(what)
		}
	}
}

// P17.1: to its last byte.
func TestWhatStandsBehindTheEnd(t *testing.T) {
	for _, s := range files() {
		for b := range 256 {
			mustNotDecode(t, s+string([]byte{byte(b)}))
		}
		mustNotDecode(t, s+s)
		mustNotDecode(t, s+strings.Repeat("\x00", 1000))
	}
}

func TestOtherMarks(t *testing.T) {
	rest := modelFile(rich())[5:]
	for _, m := range []string{"", "S", "SPS", "SPSX", "spsy", "SPSYY", "SPSY ", " SPSY", "SPOB", "YSPS", "\x00", "SPSY\x00"} {
		mustNotDecode(t, m+"\x00"+rest)
	}
	mustNotDecode(t, "SPSY"+rest)
	mustNotDecode(t, rest)
	mustNotDecode(t, "")
}

// Every byte, turned into every other one, taken out, put in twice.
func TestOtherBytes(t *testing.T) {
	good := 0
	s := modelFile(rich())
	for i := range len(s) {
		for b := range 256 {
			if mustDecodeAsModel(t, s[:i]+string([]byte{byte(b)})+s[i+1:]) {
				good++
			}
		}
		mustDecodeAsModel(t, s[:i]+s[i+1:])
		mustDecodeAsModel(t, s[:i]+s[i:i+1]+s[i:])
	}
	if good < 5000 {
		t.Errorf("%d of the texts are symbol files", good)
	}
}

// longer are ways to write a number in more bytes than it needs, or beyond 32
// bits.
func longer(n int) []string {
	s := modelNum(n)
	last, sign, more := s[len(s)-1], "\x00", "\x80"
	if n < 0 {
		sign, more = "\x7f", "\xff"
	}
	var l []string
	for ; len(s) < 8; s = s[:len(s)-1] + string([]byte{last | 128}) + sign {
		if last = s[len(s)-1]; len(l) > 0 || s != modelNum(n) {
			l = append(l, s)
		}
		if len(s) == 5 {
			l = append(l, s[:4]+string([]byte{last ^ 16}), s[:4]+string([]byte{last ^ 32}), s[:4]+string([]byte{last ^ 64}))
		}
	}
	return append(l, strings.Repeat(more, 5), strings.Repeat(more, 9)+sign, "\x80\x80\x80\x80\x08", "\xff\xff\xff\xff\x0f", "\xff\xff\xff\xff\x77", "\x80\x80\x80\x80\x80\x01")
}

// P17.1: numbers are compact, wherever they stand.
func TestNumbersAreCompact(t *testing.T) {
	p, count := modelPieces(rich()), 0
	for i, x := range p {
		if x.sort != aNum && x.sort != aLen {
			continue
		}
		count++
		for _, other := range longer(x.n) {
			s := p.turned(i, other)
			if _, ok := modelDecode(s); ok {
				t.Errorf("the test has made a symbol file of %q for %d", other, x.n)
			}
			mustNotDecode(t, s)
		}
	}
	if count < 100 {
		t.Errorf("%d numbers", count)
	}
}

// P17.1: Export and Var are 1 or 0; each of both is read as it stands there.
func TestFlagsAreOneOrZero(t *testing.T) {
	p, count := modelPieces(rich()), 0
	for i, x := range p {
		if x.sort != aFlag {
			continue
		}
		count++
		for b := range 256 {
			s := p.turned(i, string([]byte{byte(b)}))
			if got := mustDecodeAsModel(t, s); got != (b < 2) {
				t.Errorf("a flag of %d: %v", b, got)
			}
		}
	}
	if count != 6 {
		t.Errorf("%d flags", count)
	}
}

// A list has as many entries as its length says.
func TestLengthsOfLists(t *testing.T) {
	p, count := modelPieces(rich()), 0
	for i, x := range p {
		if x.sort != aLen {
			continue
		}
		count++
		for _, n := range []int{-1, -2, -64, -65, -1 << 31, x.n - 1, x.n + 1, x.n + 64, 255, 256, 1 << 16, 1 << 30, 1<<31 - 1} {
			if n != x.n {
				mustNotDecode(t, p.turned(i, modelNum(n)))
			}
		}
	}
	if count != 3+2*12 {
		t.Errorf("%d lists", count)
	}
}

func TestTextsEnd(t *testing.T) {
	p := modelPieces(rich())
	for i, x := range p {
		if x.sort == aText {
			for _, n := range []int{api.MaxString, api.MaxString + 1, 200} {
				mustDecodeAsModel(t, p.turned(i, strings.Repeat("a", n)+"\x00"))
			}
			mustDecodeAsModel(t, p.turned(i, x.bytes[:len(x.bytes)-1]))
			mustDecodeAsModel(t, p.turned(i, "\x00"))
			mustDecodeAsModel(t, p.turned(i, "\x00"+x.bytes))
		}
	}
}

// P17.1: written as a symbol file is, of an interface that is not Good.
func TestFilesOfWhatIsNotGood(t *testing.T) {
	turns := map[string]func(f *api.Face){
		"no name":               func(f *api.Face) { f.Name = "" },
		"a name that is none":   func(f *api.Face) { f.Name = "1" },
		"a module twice":        func(f *api.Face) { f.Uses[1].Name = "B" },
		"uses itself":           func(f *api.Face) { f.Uses[1].Name = "A" },
		"not used":              func(f *api.Face) { f.Uses = f.Uses[:1] },
		"17 modules":            func(f *api.Face) { *f = full(); f.Uses = append(f.Uses, api.Used{Name: "X"}) },
		"257 types":             func(f *api.Face) { *f = full(); f.Types = append(f.Types, array(1, 1)) },
		"65 objects":            func(f *api.Face) { *f = full(); f.Objs = append(f.Objs, typeOf("z", 1)) },
		"65 fields":             func(f *api.Face) { f.Types[15].Fields = append(full().Types[71].Fields, field("a", 1)) },
		"no form":               func(f *api.Face) { f.Types[12].Form = 12 },
		"the form of a number":  func(f *api.Face) { f.Types[12] = api.Ty{Form: api.FmInt} },
		"a part of other forms": func(f *api.Face) { f.Types[12].Desc = 1 },
		"a place outside":       func(f *api.Face) { f.Types[12].Elem = 19 },
		"a place below 0":       func(f *api.Face) { f.Types[12].Elem = -1 },
		"a Len of 0":            func(f *api.Face) { f.Types[12].Len = 0 },
		"a Desc of -1":          func(f *api.Face) { f.Types[15].Desc = -1 },
		"Descs out of order":    func(f *api.Face) { f.Types[14].Desc, f.Types[11].Desc = 1, 2 },
		"an object twice":       func(f *api.Face) { f.Objs[4].Name = "i" },
		"no class":              func(f *api.Face) { f.Objs[4].Class = 0 },
		"a value of a type":     func(f *api.Face) { f.Objs[6].Value.N = 1 },
		"a text of a number":    func(f *api.Face) { f.Objs[0].Value.Text = "x" },
		"a truth of 2":          func(f *api.Face) { f.Objs[1].Value.N = 2 },
		"a wrong text":          func(f *api.Face) { f.Objs[5].Value.Text = "\n" },
		"a type of another":     func(f *api.Face) { f.Objs[0].Type = 2 },
		"an N of a constant":    func(f *api.Face) { f.Objs[0].N = 1 },
		"an entry of 0":         func(f *api.Face) { f.Objs[12].N = 0 },
		"an entry of 64":        func(f *api.Face) { f.Objs[12].N = 64 },
	}
	for what, turn := range turns {
		t.Run(what, func(t *testing.T) {
			f := rich()
			turn(&f)
			if iface.Good(f) {
				t.Fatal("it is Good")
			}
			mustNotDecode(t, modelFile(f))
		})
	}
}

// The bytes of a Good interface that are more than a file may have: were they
// read, Encode would not tell them again, as P17.2 says that it does.
func TestWhatIsTooLongIsNoFile(t *testing.T) {
	for _, d := range []int{1, 2, 70000} {
		mustNotDecode(t, modelFile(sized(t, api.MaxFile+d)))
	}
}

// Rule 1: lists that say that they are long, and texts that are.
func TestLongTextsEnd(t *testing.T) {
	long := "\xff\xff\xff\xff\x07"
	head := "SPSY\x00A\x00\x00\x00\x00\x00"
	for _, ahead := range []string{"", "S", "SPSY\x00", head, head + long, head + "\x00" + long, head + "\x00\x00" + long, head + "\x00" + long + "\x09\x00\x00\x00\x00\x00\x00\x00" + long} {
		for _, b := range []string{"\x00", "a", "\x80", "\xff", "\x01\x00"} {
			mustNotDecode(t, ahead+strings.Repeat(b, 30000))
			mustNotDecode(t, ahead+strings.Repeat(b, 1<<22))
		}
	}
}

// P17.1, over random texts that are nearly files.
func TestRandomTexts(t *testing.T) {
	r := rand.New(rand.NewSource(17))
	good := 0
	for range 60000 {
		p := modelPieces(rich())
		for range 1 + r.Intn(2) {
			i := r.Intn(len(p))
			switch r.Intn(5) {
			case 0:
				p = slices.Delete(p, i, i+1)
			case 1:
				p = slices.Insert(p, i, p[r.Intn(len(p))])
			case 2:
				p[i] = p[r.Intn(len(p))]
			case 3:
				p[i].bytes = string([]byte{byte(r.Intn(20))})
			case 4:
				if p[i].sort == aNum || p[i].sort == aLen {
					p[i].bytes = modelNum(p[i].n + r.Intn(5) - 2)
				}
			}
		}
		if mustDecodeAsModel(t, p.file()) {
			good++
		}
	}
	if good < 5000 || good > 40000 {
		t.Errorf("%d of the texts are symbol files", good)
	}
}
