package symfile

import (
	"fmt"
	"math"
	"strings"
	"testing"

	"spinet/api"
	"spinet/iface"
)

// Example 1.
func TestTheExample(t *testing.T) {
	f := bare()
	f.Key = 1
	s := "SPSY\x00A\x00\x01\x00\x00\x00\x00\x00\x00"
	mustEncode(t, f, s)
	mustDecode(t, s, f)
}

// P17.1: every part at its place, written out by hand.
func TestEveryPartHasItsPlace(t *testing.T) {
	s := "SPSY\x00" + "A\x00" + "\x05\x00\x00\x00" +
		"\x02" + "B\x00\x07\x00\x00\x00" + "C\x00\x09\x00\x00\x00" +
		"\x0c" +
		"\x09A\x00R\x00" + "\x00\x00\x00\x00\x00" + "\x02" + "a\x00\x00\x08" + "b\x00\x01\x01" + "\x00" +
		"\x0aA\x00P\x00" + "\x00\x07\x00\x00\x00" + "\x00\x00" +
		"\x09B\x00R\x00" + "\x00\x00\x00\x00\x05" + "\x00\x00" +
		"\x0b\x00\x00" + "\x00\x00\x00\x08\x00" + "\x00" + "\x02" + "\x01\x09" + "\x00\x03" +
		"\x09A\x00\x00" + "\x00\x00\x09\x00\x01" + "\x00\x00" +
		"\x07\x00\x00" + "\xac\x02\x0b\x00\x00\x00" + "\x00\x00" +
		"\x08\x00\x00" + "\x00\x03\x00\x00\x00" + "\x00\x00" +
		"\x09A\x00\x00" + "\x00\x00\x00\x00\x02" + "\x01" + "x\x00\x00\x0c" + "\x00" +
		"\x09C\x00\x00" + "\x00\x00\x00\x00\x3f" + "\x00\x00" +
		"\x0aC\x00P\x00" + "\x00\x0f\x00\x00\x00" + "\x00\x00" +
		"\x0bC\x00Q\x00" + "\x00\x00\x00\x00\x00" + "\x00" + "\x01" + "\x00\x0d" +
		"\x07B\x00T\x00" + "\x04\x0e\x00\x00\x00" + "\x00\x00" +
		"\x0d" +
		"\x01i\x00\x01" + "\x01\xb8\x7e\x00" + "\x00" +
		"\x01b\x00\x02" + "\x02\x01\x00" + "\x00" +
		"\x01c\x00\x03" + "\x03\xff\x01\x00" + "\x00" +
		"\x01s\x00\x04" + "\x04\x80\x80\x80\x80\x78\x00" + "\x00" +
		"\x01n\x00\x05" + "\x05\x00\x00" + "\x00" +
		"\x01t\x00\x06" + "\x06\x00text\x00" + "\x00" +
		"\x02P\x00\x08" + "\x00\x00\x00" + "\x00" +
		"\x02I\x00\x01" + "\x00\x00\x00" + "\x00" +
		"\x02O\x00\x0d" + "\x00\x00\x00" + "\x00" +
		"\x03v\x00\x0c" + "\x00\x00\x00" + "\x01" +
		"\x03w\x00\x02" + "\x00\x00\x00" + "\x00" +
		"\x04q\x00\x0a" + "\x00\x00\x00" + "\x3f" +
		"\x04r\x00\x11" + "\x00\x00\x00" + "\x01"
	mustEncode(t, rich(), s)
	mustDecode(t, s, rich())
	if modelFile(rich()) != s {
		t.Error("the model parts from the test")
	}
}

// P17.1, P17.2: as much as there may be of everything, and numbers of two bytes.
func TestAtTheLimits(t *testing.T) {
	mustRoundTrip(t, full())
	for n := range api.MaxMods + 1 {
		f := full()
		f.Uses = f.Uses[:max(n, 1)]
		mustRoundTrip(t, f)
	}
	for _, n := range []int{1, 2, 62, 63, 64, 65, 127, 128, 255, 256, 4095, api.MaxLen} {
		mustRoundTrip(t, mod(with(array(n, 1))))
	}
	for n := range api.MaxList + 1 {
		f := full()
		f.Types[7+64].Fields = f.Types[7+64].Fields[:n]
		f.Types[8+64].Params = f.Types[8+64].Params[:n]
		mustRoundTrip(t, f)
		if n < api.MaxDesc {
			mustRoundTrip(t, mod(with(record("B", n, 0))))
		}
		f.Objs = f.Objs[:min(n, api.MaxObjs)]
		mustRoundTrip(t, f)
	}
	for n := 7 + 66; n <= api.MaxTypes; n++ {
		f := full()
		f.Types, f.Objs = f.Types[:n], nil
		mustRoundTrip(t, f)
	}
}

// Every bit of a key goes its way, of the module and of what it uses.
func TestKeysAreWords(t *testing.T) {
	for bit := range 32 {
		for _, k := range []uint32{1 << bit, ^uint32(1 << bit), 0x04030201 << bit, math.MaxUint32 >> bit} {
			f := rich()
			f.Key, f.Uses[1].Key = k, ^k
			mustRoundTrip(t, f)
		}
	}
}

// Values at and round every power of two; a set's number is its word's signed
// one.
func TestValues(t *testing.T) {
	for bit := range 33 {
		for d := -2; d <= 2; d++ {
			for _, n := range []int{1<<bit + d, -1<<bit + d} {
				for _, form := range []int{api.FmInt, api.FmBool, api.FmChar, api.FmSet} {
					f := mod(head(), constOf("k", form, n), constOf("l", api.FmNil, 0))
					if iface.Good(f) {
						mustRoundTrip(t, f)
					} else {
						mustNotEncode(t, f, api.ErrFace)
					}
				}
			}
		}
	}
	sets := map[int]string{0: "\x00", 1: "\x01", 63: "\x3f", 64: "\xc0\x00", math.MaxInt32: "\xff\xff\xff\xff\x07", 1 << 31: "\x80\x80\x80\x80\x78", math.MaxUint32: "\x7f", math.MaxUint32 - 63: "\x40", math.MaxUint32 - 64: "\xbf\x7f"}
	for n, bytes := range sets {
		f := bare()
		f.Objs = []api.Obj{constOf("s", api.FmSet, n)}
		s := "SPSY\x00A\x00\x00\x00\x00\x00\x00\x00\x01\x01s\x00\x04\x04" + bytes + "\x00\x00"
		mustEncode(t, f, s)
		mustDecode(t, s, f)
	}
}

func TestTexts(t *testing.T) {
	for b := range 256 {
		if b < ' ' || b == '"' {
			mustNotEncode(t, mod(head(), textOf("t", string([]byte{'a', byte(b)}))), api.ErrFace)
			continue
		}
		mustRoundTrip(t, mod(head(), textOf("t", string([]byte{byte(b), 'a', byte(b)}))))
	}
	for n := range api.MaxString + 1 {
		mustRoundTrip(t, mod(head(), textOf("t", strings.Repeat("\xff", n))))
	}
	mustNotEncode(t, mod(head(), textOf("t", strings.Repeat("a", api.MaxString+1))), api.ErrFace)
}

func TestNamesOfEveryLength(t *testing.T) {
	for n := range api.MaxName {
		name := longest[:n+1]
		f := api.Face{Name: name, Uses: []api.Used{{Name: "U" + name[:n]}}, Types: with(named(record(name, 0, 0, field(name, 1)), name, name), named(pointer(7), "U"+name[:n], name)), Objs: []api.Obj{typeOf(name, 7)}}
		mustRoundTrip(t, f)
	}
}

// P17.1: nil and empty lists are one.
func TestEmptyListsAreNil(t *testing.T) {
	f := api.Face{Name: "A", Uses: []api.Used{}, Types: with(api.Ty{Form: api.FmRecord, Mod: "A", Fields: []api.TyField{}, Params: []api.TyParam{}}), Objs: []api.Obj{}}
	mustEncode(t, f, modelFile(api.Face{Name: "A", Types: with(record("A", 0, 0))}))
}

// P17.1: ErrFace, whatever makes an interface one that is not Good, also a number
// that a byte or a word would not show.
func TestEncodeRefusesWhatIsNotGood(t *testing.T) {
	turns := map[string]func(f *api.Face){
		"nothing":             func(f *api.Face) { *f = api.Face{} },
		"no types":            func(f *api.Face) { *f = api.Face{Name: "A"} },
		"six types":           func(f *api.Face) { *f = api.Face{Name: "A", Types: head()[:6]} },
		"no name":             func(f *api.Face) { f.Name = "" },
		"a name with a 0":     func(f *api.Face) { f.Name = "A\x00" },
		"a long name":         func(f *api.Face) { f.Name = longest + "n" },
		"a module twice":      func(f *api.Face) { f.Uses[1].Name = "B" },
		"uses itself":         func(f *api.Face) { f.Uses[1].Name = "A" },
		"17 modules":          func(f *api.Face) { *f = full(); f.Uses = append(f.Uses, api.Used{Name: "X"}) },
		"257 types":           func(f *api.Face) { *f = full(); f.Types = append(f.Types, array(1, 1)) },
		"65 objects":          func(f *api.Face) { *f = full(); f.Objs = append(f.Objs, typeOf("z", 1)) },
		"a byte more":         func(f *api.Face) { f.Types[12].Form += 256 },
		"a form below 0":      func(f *api.Face) { f.Types[12].Form -= 256 },
		"a class of 256 more": func(f *api.Face) { f.Objs[6].Class += 256 },
		"a form of 256 more":  func(f *api.Face) { f.Objs[0].Value.Form += 256 },
		"a number too long":   func(f *api.Face) { f.Objs[0].Value.N = 1 << 31 },
		"a set too long":      func(f *api.Face) { f.Objs[3].Value.N = 1 << 32 },
		"a set below 0":       func(f *api.Face) { f.Objs[3].Value.N = -1 },
		"a place of 2^32":     func(f *api.Face) { f.Objs[6].Type += 1 << 32 },
		"an entry of 2^32":    func(f *api.Face) { f.Objs[11].N += 1 << 32 },
		"a Len of 2^32":       func(f *api.Face) { f.Types[12].Len += 1 << 32 },
		"a Desc of -1":        func(f *api.Face) { f.Types[15].Desc = -1 },
		"Descs out of order":  func(f *api.Face) { f.Types[14].Desc, f.Types[11].Desc = 1, 2 },
		"the first seven":     func(f *api.Face) { f.Types[3].Len = 1 },
		"an object twice":     func(f *api.Face) { f.Objs[4].Name = "i" },
		"no class":            func(f *api.Face) { f.Objs[4].Class = 0 },
	}
	for what, turn := range turns {
		t.Run(what, func(t *testing.T) {
			f := rich()
			turn(&f)
			mustNotEncode(t, f, api.ErrFace)
		})
	}
}

// P17.1: rider's error, where a Good interface has more than MaxFile bytes; none,
// where it has as many.
func TestTheLongestFiles(t *testing.T) {
	for _, d := range []int{-2, -1, 0} {
		f := sized(t, api.MaxFile+d)
		mustRoundTrip(t, f)
	}
	for _, d := range []int{1, 2, 1000, 70000} {
		mustNotEncode(t, sized(t, api.MaxFile+d), api.ErrLong)
	}
}

// Of two errors the one that is named first.
func TestNotGoodIsToldAheadOfTooLong(t *testing.T) {
	f := sized(t, api.MaxFile+1)
	f.Uses[0].Name = "A"
	mustNotEncode(t, f, api.ErrFace)
}

// Rule 4: the same again, whatever was asked in between.
func TestTheSameAgain(t *testing.T) {
	l := []api.Face{rich(), full(), bare(), {}}
	said := func(f api.Face) string {
		s, err := Encode(f)
		k, err2 := Key(f)
		g, err3 := Decode(s)
		return fmt.Sprint(s, err, k, err2, say(g), err3)
	}
	var first []string
	for _, f := range l {
		first = append(first, said(f))
	}
	for i := len(l) - 1; i >= 0; i-- {
		if got := said(l[i]); got != first[i] {
			t.Errorf("interface %d: %s, ahead %s", i, got, first[i])
		}
	}
}
