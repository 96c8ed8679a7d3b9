package symfile

import (
	"strings"

	"spinet/api"
	"spinet/iface"
)

// The tests hold the package against a model of its own: a file's parts are put
// into a list, one by one, each with its sort, and written out at the end;
// numbers are cut by division. A file is read by cutting the front off a text,
// with a number held against what would be written. Keys are reckoned in 64
// bits, by remainders.

type sort int

const (
	aByte sort = iota
	aFlag
	aNum
	aLen
	aWord
	aText
)

// piece is a part of a file: its bytes, and of a number what it is.
type piece struct {
	sort  sort
	n     int
	bytes string
}

type pieces []piece

func remainder(n, by int) int { return (n%by + by) % by }

func modelNum(n int) string {
	var out []byte
	for n < -64 || n > 63 {
		r := remainder(n, 128)
		out = append(out, byte(128+r))
		n = (n - r) / 128
	}
	return string(append(out, byte(remainder(n, 128))))
}

func (p *pieces) put(s sort, n int, b string) { *p = append(*p, piece{s, n, b}) }
func (p *pieces) num(n int)                   { p.put(aNum, n, modelNum(n)) }
func (p *pieces) length(n int)                { p.put(aLen, n, modelNum(n)) }
func (p *pieces) text(s string)               { p.put(aText, 0, s+"\x00") }
func (p *pieces) byte(n int)                  { p.put(aByte, n, string([]byte{byte(n)})) }

func (p *pieces) word(x uint32) {
	p.put(aWord, 0, string([]byte{byte(x % 256), byte(x / 256 % 256), byte(x / 65536 % 256), byte(x / 16777216)}))
}

func (p *pieces) flag(b bool) {
	n := map[bool]int{true: 1}[b]
	p.put(aFlag, n, string([]byte{byte(n)}))
}

func (p *pieces) obj(o api.Obj) {
	p.byte(o.Class)
	p.text(o.Name)
	p.num(o.Type)
	p.byte(o.Value.Form)
	if n := o.Value.N; o.Value.Form == 4 && n > 2147483647 {
		p.num(n - 4294967296)
	} else {
		p.num(n)
	}
	p.text(o.Value.Text)
	p.num(o.N)
}

func (p *pieces) typ(x api.Ty) {
	p.byte(x.Form)
	p.text(x.Mod)
	p.text(x.Name)
	for _, n := range []int{x.Len, x.Elem, x.Base, x.Result, x.Desc} {
		p.num(n)
	}
	p.length(len(x.Fields))
	for _, e := range x.Fields {
		p.text(e.Name)
		p.flag(e.Export)
		p.num(e.Type)
	}
	p.length(len(x.Params))
	for _, e := range x.Params {
		p.flag(e.Var)
		p.num(e.Type)
	}
}

// modelPieces are the parts of the file of an interface, Good or not, that has
// the first seven types.
func modelPieces(f api.Face) pieces {
	var p pieces
	p.text("SPSY")
	p.text(f.Name)
	p.word(f.Key)
	p.length(len(f.Uses))
	for _, u := range f.Uses {
		p.text(u.Name)
		p.word(u.Key)
	}
	p.length(len(f.Types) - 7)
	for _, x := range f.Types[7:] {
		p.typ(x)
	}
	p.length(len(f.Objs))
	for _, o := range f.Objs {
		p.obj(o)
	}
	return p
}

func (p pieces) file() string {
	var s strings.Builder
	for _, x := range p {
		s.WriteString(x.bytes)
	}
	return s.String()
}

// turned is the file with other bytes in a piece's place.
func (p pieces) turned(i int, bytes string) string {
	return p[:i].file() + bytes + p[i+1:].file()
}

func modelFile(f api.Face) string { return modelPieces(f).file() }

func modelKey(f api.Face) uint32 {
	f.Key = 0
	k := uint64(2166136261)
	for _, b := range []byte(modelFile(f)) {
		k = (k ^ uint64(b)) * 16777619 % 4294967296
	}
	if k == 0 {
		return 1
	}
	return uint32(k)
}

// text is what is left of a file; what is not there is thrown.
type text string

type wrong struct{}

func (s *text) take(n int) string {
	if n < 0 || n > len(*s) {
		panic(wrong{})
	}
	out := string((*s)[:n])
	*s = (*s)[n:]
	return out
}

func (s *text) byte() int { return int(s.take(1)[0]) }

func (s *text) flag() bool {
	n := s.byte()
	if n > 1 {
		panic(wrong{})
	}
	return n == 1
}

func (s *text) word() uint32 {
	b := s.take(4)
	return uint32(b[0]) + 256*(uint32(b[1])+256*(uint32(b[2])+256*uint32(b[3])))
}

func (s *text) string() string {
	end := strings.Index(string(*s), "\x00")
	if end > 64 {
		panic(wrong{})
	}
	out := s.take(end)
	s.take(1)
	return out
}

func (s *text) num() int {
	n, weight := 0, 1
	for i, b := range []byte(*s) {
		n, weight = n+int(b)%128*weight, weight*128
		if b >= 128 && i < 4 {
			continue
		}
		if b >= 64 {
			n -= weight
		}
		if s.take(i+1) != modelNum(n) || n < -2147483648 || n > 2147483647 {
			break
		}
		return n
	}
	panic(wrong{})
}

func (s *text) set() int {
	n := s.num()
	if n < 0 {
		return n + 4294967296
	}
	return n
}

func (s *text) length() int {
	n := s.num()
	if n < 0 {
		panic(wrong{})
	}
	return n
}

func (s *text) typ() api.Ty {
	x := api.Ty{Form: s.byte(), Mod: s.string(), Name: s.string(), Len: s.num(), Elem: s.num(), Base: s.num(), Result: s.num(), Desc: s.num()}
	for range s.length() {
		x.Fields = append(x.Fields, api.TyField{Name: s.string(), Export: s.flag(), Type: s.num()})
	}
	for range s.length() {
		x.Params = append(x.Params, api.TyParam{Var: s.flag(), Type: s.num()})
	}
	return x
}

func (s *text) obj() api.Obj {
	o := api.Obj{Class: s.byte(), Name: s.string(), Type: s.num()}
	o.Value.Form = s.byte()
	if o.Value.Form == 4 {
		o.Value.N = s.set()
	} else {
		o.Value.N = s.num()
	}
	o.Value.Text, o.N = s.string(), s.num()
	return o
}

func (s *text) face() api.Face {
	if s.string() != "SPSY" {
		panic(wrong{})
	}
	f := api.Face{Name: s.string(), Key: s.word(), Types: head()}
	for range s.length() {
		f.Uses = append(f.Uses, api.Used{Name: s.string(), Key: s.word()})
	}
	for range s.length() {
		f.Types = append(f.Types, s.typ())
	}
	for range s.length() {
		f.Objs = append(f.Objs, s.obj())
	}
	return f
}

func modelDecode(s string) (f api.Face, ok bool) {
	defer func() {
		if x := recover(); x != nil {
			_ = x.(wrong)
			f, ok = api.Face{}, false
		}
	}()
	left := text(s)
	f = left.face()
	return f, left == "" && len(s) <= api.MaxFile && iface.Good(f)
}
