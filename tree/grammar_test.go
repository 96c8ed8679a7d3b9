package tree

import (
	"fmt"
	"math/rand"
	"slices"
	"strings"
	"testing"

	"spinet/api"
	"spinet/token"
)

// The chapter's grammar, word for word, but that what a procedure declares has
// rules of its own, since no * stands there.
const grammarText = `
module   = "MODULE" Name ";" [ "IMPORT" import { "," import } ";" ] decls { proc ";" } [ "BEGIN" stats ] "END" Name "."
import   = Name [ ":=" Name ]
decls    = [ "CONST" { def "=" expr ";" } ] [ "TYPE" { def "=" type ";" } ] [ "VAR" { def { "," def } ":" type ";" } ]
inner    = [ "CONST" { Name "=" expr ";" } ] [ "TYPE" { Name "=" type ";" } ] [ "VAR" { Name { "," Name } ":" type ";" } ]
def      = Name [ "*" ]
type     = qual | "ARRAY" expr { "," expr } "OF" type | "RECORD" [ "(" qual ")" ] [ fields { ";" fields } ] "END" | "POINTER" "TO" type | "PROCEDURE" [ formals ]
fields   = [ Name [ "*" ] { "," Name [ "*" ] } ":" type ]
qual     = Name [ "." Name ]
proc     = "PROCEDURE" def [ formals ] ";" inner [ "BEGIN" stats ] [ "RETURN" expr ] "END" Name
formals  = "(" [ section { ";" section } ] ")" [ ":" qual ]
section  = [ "VAR" ] Name { "," Name } ":" { "ARRAY" "OF" } qual
stats    = stat { ";" stat }
stat     = [ design [ ":=" expr ] | "IF" expr "THEN" stats { "ELSIF" expr "THEN" stats } [ "ELSE" stats ] "END" | "CASE" expr "OF" case { "|" case } "END" | "WHILE" expr "DO" stats { "ELSIF" expr "DO" stats } "END" | "REPEAT" stats "UNTIL" expr | "FOR" Name ":=" expr "TO" expr [ "BY" expr ] "DO" stats "END" ]
case     = [ label { "," label } ":" stats ]
label    = expr [ ".." expr ]
expr     = simple [ ( "=" | "#" | "<" | "<=" | ">" | ">=" | "IN" | "IS" ) simple ]
simple   = [ "+" | "-" ] term { ( "+" | "-" | "OR" ) term }
term     = factor { ( "*" | "/" | "DIV" | "MOD" | "&" ) factor }
factor   = Int | Char | Text | "NIL" | "TRUE" | "FALSE" | "{" [ label { "," label } ] "}" | design | "(" expr ")" | "~" factor
design   = Name { "." Name | "[" expr { "," expr } "]" | "^" | "(" [ expr { "," expr } ] ")" }
`

// grammar has, for each rule, the ways to make it: lists of terminals (in
// quotes, or with a capital) and of rules.
type grammar struct {
	ways  map[string][][]string
	empty map[string]bool // rules that may make nothing
	least map[string]int  // how deep a rule's lowest tree is
}

func isTerminal(s string) bool {
	return s[0] == '"' || s[0] >= 'A' && s[0] <= 'Z'
}

func newGrammar() *grammar {
	g := &grammar{ways: map[string][][]string{}, empty: map[string]bool{}, least: map[string]int{}}
	for _, line := range strings.Split(strings.TrimSpace(grammarText), "\n") {
		l := strings.Fields(line)
		ways, rest := g.choice(l[2:])
		if l[1] != "=" || len(rest) != 0 {
			panic(line)
		}
		g.ways[l[0]] = ways
	}
	for range g.ways {
		for rule, ways := range g.ways {
			g.note(rule, ways)
		}
	}
	return g
}

func (g *grammar) note(rule string, ways [][]string) {
	for _, way := range ways {
		depth, empty := 1, true
		for _, s := range way {
			if isTerminal(s) {
				empty = false
			} else {
				empty = empty && g.empty[s]
				if g.least[s] == 0 {
					depth = 1 << 20
				}
				depth = max(depth, 1+g.least[s])
			}
		}
		g.empty[rule] = g.empty[rule] || empty
		if depth < 1<<20 && (g.least[rule] == 0 || depth < g.least[rule]) {
			g.least[rule] = depth
		}
	}
}

func (g *grammar) choice(l []string) ([][]string, []string) {
	var ways [][]string
	for {
		var way []string
		way, l = g.sequence(l)
		ways = append(ways, way)
		if len(l) == 0 || l[0] != "|" {
			return ways, l
		}
		l = l[1:]
	}
}

func (g *grammar) sequence(l []string) ([]string, []string) {
	var way []string
	for len(l) > 0 && !slices.Contains([]string{"|", ")", "]", "}"}, l[0]) {
		s := l[0]
		l = l[1:]
		if s == "(" || s == "[" || s == "{" {
			open := s
			var ways [][]string
			ways, l = g.choice(l)
			l = l[1:]
			s = fmt.Sprintf("part%d", len(g.ways))
			if open == "{" {
				for i := range ways {
					ways[i] = append(ways[i], s)
				}
			}
			if open != "(" {
				ways = append(ways, nil)
			}
			g.ways[s] = ways
		}
		way = append(way, s)
	}
	return way, l
}

// state is one of Earley's: how far a way to make a rule has come.
type state struct {
	rule      string
	way, done int
	from      int
}

// reader follows all that a beginning of a module may be at once: what may
// stand next is what one of its states waits for.
type reader struct {
	g    *grammar
	sets [][]state
}

func newReader(g *grammar) *reader {
	r := &reader{g: g}
	r.closure([]state{{rule: "module"}})
	return r
}

func (r *reader) waits(s state) string {
	way := r.g.ways[s.rule][s.way]
	if s.done == len(way) {
		return ""
	}
	return way[s.done]
}

func (r *reader) closure(l []state) {
	here := len(r.sets)
	r.sets = append(r.sets, nil)
	seen := map[state]bool{}
	add := func(s state) {
		if !seen[s] {
			seen[s] = true
			l = append(l, s)
		}
	}
	first := l
	l = nil
	for _, s := range first {
		add(s)
	}
	for i := 0; i < len(l); i++ {
		s := l[i]
		next := r.waits(s)
		switch {
		case next == "" && s.from < here:
			for _, up := range r.sets[s.from] {
				if r.waits(up) == s.rule {
					up.done++
					add(up)
				}
			}
		case next != "" && !isTerminal(next):
			for way := range r.g.ways[next] {
				add(state{rule: next, way: way, from: here})
			}
			// What may be nothing is passed here; so no rule that ends where
			// it began is looked for above.
			if r.g.empty[next] {
				s.done++
				add(s)
			}
		}
	}
	r.sets[here] = l
}

func (r *reader) may(terminal string) bool {
	return slices.ContainsFunc(r.sets[len(r.sets)-1], func(s state) bool { return r.waits(s) == terminal })
}

func (r *reader) feed(terminal string) {
	var l []state
	for _, s := range r.sets[len(r.sets)-1] {
		if r.waits(s) == terminal {
			s.done++
			l = append(l, s)
		}
	}
	r.closure(l)
}

func (r *reader) complete() bool {
	return slices.ContainsFunc(r.sets[len(r.sets)-1], func(s state) bool {
		return s.rule == "module" && s.from == 0 && r.waits(s) == ""
	})
}

// terminal is what the grammar calls a token that is spelt so.
func terminal(s string) string {
	switch c := s[0]; {
	case c == '"':
		return "Text"
	case c >= '0' && c <= '9' && strings.HasSuffix(s, "X"):
		return "Char"
	case c >= '0' && c <= '9':
		return "Int"
	case c >= 'a' && c <= 'z' || c >= 'A' && c <= 'Z' && !strings.Contains(grammarText, `"`+s+`"`):
		return "Name"
	}
	return `"` + s + `"`
}

// names follows which name must stand behind END: a Name right behind PROCEDURE
// is a procedure's, one right behind END is the procedure's or the module's.
type names struct {
	module, proc string
	last         string
}

func (n *names) may(s string) bool {
	want := n.module
	if n.proc != "" {
		want = n.proc
	}
	return n.last != "END" || terminal(s) != "Name" || s == want
}

func (n *names) feed(s string) {
	if terminal(s) == "Name" {
		switch n.last {
		case "MODULE":
			n.module = s
		case "PROCEDURE":
			n.proc = s
		case "END":
			n.proc = ""
		}
	}
	n.last = s
}

// misfitOf is which of the tokens can't stand; how many there are, if more must
// come; -1, if they are a module.
func misfitOf(g *grammar, spelt []string) int {
	r := newReader(g)
	var n names
	for i, s := range spelt {
		if !r.may(terminal(s)) || !n.may(s) {
			return i
		}
		r.feed(terminal(s))
		n.feed(s)
	}
	if r.complete() {
		return -1
	}
	return len(spelt)
}

// glued is the tokens' text, and each one's place; the text's length behind.
func glued(spelt []string, gap func() string) (string, []int) {
	var b strings.Builder
	var places []int
	b.WriteString(gap())
	for _, s := range spelt {
		places = append(places, b.Len())
		b.WriteString(s)
		b.WriteString(gap())
	}
	return b.String(), append(places, b.Len())
}

func blankGap() string { return " " }

func someGap(r *rand.Rand) func() string {
	gaps := []string{" ", " ", "\n", "\t\r\n", "  ", "(**)", " (* END (* . *) \" *) ", "(* 1.5 *)"}
	return func() string { return gaps[r.Intn(len(gaps))] }
}

func spellingsOf(t testing.TB, s string) []string {
	l, at, err := token.Lex(s)
	if err != api.OK {
		t.Fatal(s, at, err)
	}
	var spelt []string
	for _, x := range l {
		one, err := token.Text([]api.Token{x})
		if err != api.OK {
			t.Fatal(s, x, err)
		}
		spelt = append(spelt, one)
	}
	return spelt
}

// Every word of the language; a number, a character, a text, a name.
func vocabulary() []string {
	return strings.Fields(`ARRAY BEGIN BY CASE CONST DIV DO ELSE ELSIF END FALSE FOR IF IMPORT IN IS MOD MODULE NIL OF OR POINTER PROCEDURE RECORD REPEAT RETURN THEN TO TRUE TYPE UNTIL VAR WHILE
		:= .. <= >= + - * / & ~ . , ; | ( [ { ^ = # < > : ) ] } 7 0AX "END" "" x A`)
}

// mustStopAt holds what Parse says of tokens against what can't stand.
func mustStopAt(t *testing.T, spelt []string, misfit int, gap func() string) {
	t.Helper()
	s, places := glued(spelt, gap)
	m, at, err := Parse(s)
	if misfit < 0 {
		if err != api.OK || at != 0 || m.Name == "" {
			t.Fatalf("%q: %d, %v", s, at, err)
		}
		return
	}
	if err != api.ErrParse || at != places[misfit] || !isZero(m) {
		t.Fatalf("%q: %d, %v, want ErrParse at %d", s, at, err, places[misfit])
	}
}

// Sources that have every part of every rule, none, once and several times.
func samples() []string {
	return []string{
		`MODULE A; END A.`,
		`MODULE A; IMPORT B, C := D, E; CONST a* = 1; b = - 0AX + "t" * x OR y = NIL; TYPE T* = B; U = B.C; VAR v*: T; w, x*, y: B.T; BEGIN v END A.`,
		`MODULE A; CONST TYPE VAR BEGIN END A.`,
		`MODULE A; TYPE R = RECORD END; S = RECORD (R) a: T END; Q = RECORD (M.R) a*, b, c*: T; ; d: RECORD ; END; END; A = ARRAY 3 OF T; B = ARRAY n + 1, 2, k OF ARRAY 1 OF POINTER TO T; END A.`,
		`MODULE A; TYPE P = POINTER TO RECORD a: P END; F = PROCEDURE; G = PROCEDURE (); H = PROCEDURE (a: T); I = PROCEDURE (VAR a, b: T; c: ARRAY OF T; VAR d: ARRAY OF ARRAY OF M.T): M.T; J = PROCEDURE (): T; VAR f: PROCEDURE (x: T): T; END A.`,
		`MODULE A; PROCEDURE P; END P; PROCEDURE Q*; BEGIN END Q; PROCEDURE R*(); RETURN 1 END R; PROCEDURE S(a, b: T; VAR c: ARRAY OF M.T): M.T; CONST a = 1; b = 2; TYPE T = RECORD a*, b: U END; U = T; VAR x: T; y, z: U; BEGIN x := y RETURN x + y END S; END A.`,
		`MODULE A; BEGIN x; ; x := y; x.y[1]^(2) := 1; x(); x(1, y)(2)(); x[1, 2, 3][4] ; END A.`,
		`MODULE A; BEGIN IF a THEN END; IF a = b THEN c; d ELSE e END; IF a THEN b ELSIF c THEN d ELSIF e THEN ELSE END END A.`,
		`MODULE A; BEGIN CASE a OF END; CASE a OF | END; CASE a OF 1: x END; CASE a OF -1, 2 .. 3, "a", 0AX .. 0BX, (1): x; y | | NIL: | ~a, {}: END END A.`,
		`MODULE A; BEGIN WHILE a DO END; WHILE a DO b; c ELSIF d DO e ELSIF f DO END; REPEAT UNTIL a; REPEAT a; b UNTIL c OR d; FOR i := 1 TO 2 DO END; FOR i := - 1 TO 2 + 3 BY - 1 DO a; b END END A.`,
		`MODULE A; CONST a = + x - y + z OR w; b = ( - a ) * ( b + c ) / d DIV e MOD f & g; c = a = b; d = a # b; e = a < b; f = a <= b; g = a > b; h = a >= b; i = a IN b; j = a IS B.T; k = - a < - b; l = ~ ~ ( ~ a ); END A.`,
		`MODULE A; CONST a = { }; b = { 1 }; c = { 1, 2 .. 3, a .. b + 1, - 1 .. + 2, x }; d = TRUE; e = FALSE; f = ""; g = 0FFFFFFFFH; h = x ( { } , NIL ) . y; END A.`,
	}
}

func TestSamplesAreModules(t *testing.T) {
	g := newGrammar()
	for _, s := range samples() {
		spelt := spellingsOf(t, s)
		if n := misfitOf(g, spelt); n != -1 {
			t.Fatal(s, n)
		}
		mustStopAt(t, spelt, -1, blankGap)
	}
}

// Each word at each place of the samples, and the text's end there.
func TestEveryWordAtEveryPlace(t *testing.T) {
	g := newGrammar()
	words := vocabulary()
	for _, s := range samples() {
		spelt := spellingsOf(t, s)
		r := newReader(g)
		var n names
		for i := 0; i <= len(spelt); i++ {
			ahead := spelt[:i:i]
			if i < len(spelt) {
				mustStopAt(t, ahead, i, blankGap)
			}
			for _, w := range append(words, "P", "Q") {
				switch {
				case !r.may(terminal(w)) || !n.may(w):
					mustStopAt(t, append(ahead, w), i, blankGap)
					// What stands behind does not matter.
					mustStopAt(t, append(ahead, w, "MODULE", "END"), i, blankGap)
				case w != ".":
					mustStopAt(t, append(ahead, w), i+1, blankGap)
				}
			}
			if i < len(spelt) {
				r.feed(terminal(spelt[i]))
				n.feed(spelt[i])
			}
		}
	}
}

// made is tokens that the grammar makes, at random.
func (g *grammar) made(r *rand.Rand, rule string, depth int) []string {
	if isTerminal(rule) {
		switch rule {
		case "Name":
			return []string{string("ABcdxyPQ"[r.Intn(8)])}
		case "Int":
			return []string{"7"}
		case "Char":
			return []string{"0AX"}
		case "Text":
			return []string{`"END"`}
		}
		return []string{rule[1 : len(rule)-1]}
	}
	ways := g.ways[rule]
	way := ways[r.Intn(len(ways))]
	if depth < g.deepest(way) {
		for _, w := range ways {
			if g.deepest(w) < g.deepest(way) {
				way = w
			}
		}
	}
	var l []string
	for _, s := range way {
		l = append(l, g.made(r, s, depth-1)...)
	}
	return l
}

func (g *grammar) deepest(way []string) int {
	n := 0
	for _, s := range way {
		n = max(n, g.least[s])
	}
	return n
}

// named has the right names behind END.
func named(spelt []string) []string {
	var n names
	for i, s := range spelt {
		if !n.may(s) {
			s = n.module
			if n.proc != "" {
				s = n.proc
			}
			spelt[i] = s
		}
		n.feed(s)
	}
	return spelt
}

func spoilt(r *rand.Rand, spelt []string, words []string) []string {
	l := slices.Clone(spelt)
	for range 1 + r.Intn(2) {
		i := r.Intn(len(l))
		switch r.Intn(5) {
		case 0:
			l[i] = words[r.Intn(len(words))]
		case 1:
			l = slices.Insert(l, i, words[r.Intn(len(words))])
		case 2:
			l = append(l[:i], l[i+1:]...)
		case 3:
			k := r.Intn(len(l))
			l[i], l[k] = l[k], l[i]
		case 4:
			l = l[:i]
		}
		if len(l) == 0 {
			return l
		}
	}
	return l
}

func TestMadeAndSpoiltModules(t *testing.T) {
	g := newGrammar()
	r := rand.New(rand.NewSource(10))
	words := vocabulary()
	for made := 0; made < 600; {
		spelt := named(g.made(r, "module", 8+r.Intn(12)))
		if len(spelt) > 200 {
			continue
		}
		made++
		mustStopAt(t, spelt, -1, someGap(r))
		for range 4 {
			l := spoilt(r, spelt, words)
			mustStopAt(t, l, misfitOf(g, l), someGap(r))
		}
	}
}
