package tree

import "spinet/api"

// word is what the grammar sees of a token: of a name, a number, a character,
// a text the kind alone. The zero word stands behind the last token.
type word struct {
	kind int
	text string
}

var aName = word{kind: api.TokName}

func key(text string) word {
	return word{kind: api.TokKey, text: text}
}

func sign(text string) word {
	return word{kind: api.TokSign, text: text}
}

// parser reads tokens from the left. What the next one begins is found in its
// maps; where it is in none of them, it begins nothing there.
type parser struct {
	tokens []api.Token
	done   int // how many of them are read
	end    int // the source's length
	inProc bool

	types   map[word]func(*parser) api.Texpr
	stats   map[word]func(*parser) api.Stat
	factors map[word]func(*parser) api.Expr
	steps   map[word]func(*parser, api.Expr) api.Expr
	levels  map[word]int
}

// misfit is thrown where a token can't stand.
type misfit struct {
	at int
}

func readTokens(tokens []api.Token, end int) (m api.Module, at int, err api.Errno) {
	defer func() {
		if thrown := recover(); thrown != nil {
			at, err = thrown.(misfit).at, api.ErrParse
		}
	}()
	p := parser{
		tokens: tokens, end: end,
		types: typeReaders(), stats: statReaders(), factors: factorReaders(), steps: designSteps(), levels: opLevels(),
	}
	return p.module(), 0, api.OK
}

func (p *parser) next() word {
	if p.done == len(p.tokens) {
		return word{}
	}
	t := p.tokens[p.done]
	if t.Kind == api.TokKey || t.Kind == api.TokSign {
		return word{kind: t.Kind, text: t.Text}
	}
	return word{kind: t.Kind}
}

// place is the next token's; behind the last one, the source's length.
func (p *parser) place() int {
	if p.done == len(p.tokens) {
		return p.end
	}
	return p.tokens[p.done].At
}

func (p *parser) refuse() {
	panic(misfit{at: p.place()})
}

func (p *parser) pass() api.Token {
	if p.done == len(p.tokens) {
		p.refuse()
	}
	t := p.tokens[p.done]
	p.done++
	return t
}

func (p *parser) take(w word) bool {
	there := p.next() == w
	if there {
		p.pass()
	}
	return there
}

func (p *parser) need(w word) api.Token {
	if p.next() != w {
		p.refuse()
	}
	return p.pass()
}

// list reads one and, as long as that word stands behind it, one more.
func list[T any](p *parser, between word, one func() T) []T {
	l := []T{one()}
	for p.take(between) {
		l = append(l, one())
	}
	return l
}

// listTo reads a list, which may lack, up to the word that closes it.
func listTo[T any](p *parser, between, closing word, one func() T) []T {
	if p.take(closing) {
		return nil
	}
	l := list(p, between, one)
	p.need(closing)
	return l
}

// run reads one behind the other, as long as the next begins with that word.
func run[T any](p *parser, first word, one func() T) []T {
	var l []T
	for p.next() == first {
		l = append(l, one())
	}
	return l
}
