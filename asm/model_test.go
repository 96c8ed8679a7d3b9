package asm

import (
	"fmt"
	"regexp"
	"strconv"
	"strings"
)

// The tests hold the package against two models that know nothing of each
// other: wantLine cuts a word by division and prints it, wantWord matches a
// text against a pattern for each form and sums its word up.

func opName(n int) string {
	return strings.Fields("MOV LSL ASR ROR AND ANN IOR XOR ADD SUB MUL DIV")[n]
}

func condName(n int) string {
	return strings.Fields("MI EQ CS VS LS LT LE T PL NE CC VC HI GE GT F")[n]
}

func marksMay(form, op int, u, v bool) bool {
	upon := op == 0 || op >= 8 && op <= 10
	return op <= 11 && (!u || upon) && (form == 1 || !v || op == 0 && u)
}

func mark(set bool, text string) string {
	if set {
		return text
	}
	return ""
}

func signedOf(n, room int) int {
	if n >= room/2 {
		return n - room
	}
	return n
}

// wantLine is the line of w, and whether w is an instruction.
func wantLine(w uint32) (string, bool) {
	n := int(w)
	form, u, v := n/1073741824, n/536870912%2 == 1, n/268435456%2 == 1
	a, b, op := n/16777216%16, n/1048576%16, n/65536%16
	switch form {
	case 0, 1:
		last := fmt.Sprint(n % 65536)
		if form == 0 {
			last = fmt.Sprint("R", n%16)
		}
		if !marksMay(form, op, u, v) || form == 0 && n%65536 >= 16 {
			return "", false
		}
		return fmt.Sprintf("%s%s%s R%d, R%d, %s", opName(op), mark(u, "'"), mark(v, `"`), a, b, last), true
	case 2:
		name := map[[2]bool]string{{false, false}: "LDR", {false, true}: "LDB", {true, false}: "STR", {true, true}: "STB"}[[2]bool{u, v}]
		return fmt.Sprintf("%s R%d, R%d, %d", name, a, b, signedOf(n%1048576, 1048576)), true
	}
	name := "B" + mark(v, "L") + "." + condName(a)
	if u {
		return fmt.Sprintf("%s %d", name, signedOf(n%16777216, 16777216)), true
	}
	return fmt.Sprintf("%s R%d", name, n%16), n%16777216 < 16
}

const (
	registerText = `R([0-9]|1[0-5])`
	numberText   = `(0|-?[1-9][0-9]{0,7})`
)

var (
	regPattern  = regexp.MustCompile(`\A([A-Z]{3})('?)("?) ` + registerText + `, ` + registerText + `, ` + registerText + `\z`)
	imPattern   = regexp.MustCompile(`\A([A-Z]{3})('?)("?) ` + registerText + `, ` + registerText + `, ` + numberText + `\z`)
	jumpPattern = regexp.MustCompile(`\AB(L?)\.([A-Z]+) (?:` + registerText + `|` + numberText + `)\z`)
	barePattern = regexp.MustCompile(`\A#[0-9a-f]{8}\z`)
)

func atoi(s string) int {
	n, err := strconv.Atoi(s)
	if err != nil {
		panic(err)
	}
	return n
}

func place(name func(int) string, count int, text string) int {
	for i := range count {
		if name(i) == text {
			return i
		}
	}
	return -1
}

func bit(set bool, weight int) int {
	if set {
		return weight
	}
	return 0
}

// wantWord is the word whose line s is, and whether there is one.
func wantWord(s string) (uint32, bool) {
	if m := regPattern.FindStringSubmatch(s); m != nil {
		op, u, v := place(opName, 12, m[1]), m[2] != "", m[3] != ""
		if op < 0 || !marksMay(0, op, u, v) {
			return 0, false
		}
		return uint32(bit(u, 1<<29) + bit(v, 1<<28) + atoi(m[4])<<24 + atoi(m[5])<<20 + op<<16 + atoi(m[6])), true
	}
	if m := imPattern.FindStringSubmatch(s); m != nil {
		return wantNumbered(m[1], m[2] != "", m[3] != "", atoi(m[4])<<24+atoi(m[5])<<20, atoi(m[6]))
	}
	m := jumpPattern.FindStringSubmatch(s)
	if m == nil {
		return 0, false
	}
	cond, top := place(condName, 16, m[2]), 3<<30+bit(m[1] != "", 1<<28)
	if cond < 0 {
		return 0, false
	}
	if m[3] != "" {
		return uint32(top + cond<<24 + atoi(m[3])), true
	}
	im := atoi(m[4])
	if im < -8388608 || im > 8388607 {
		return 0, false
	}
	return uint32(top + 1<<29 + cond<<24 + (im+16777216)%16777216), true
}

func wantNumbered(name string, u, v bool, registers, im int) (uint32, bool) {
	mem := place(func(i int) string { return strings.Fields("LDR LDB STR STB")[i] }, 4, name)
	if mem >= 0 {
		good := !u && !v && im >= -524288 && im <= 524287
		return uint32(bit(good, 2<<30+mem<<28+registers+(im+1048576)%1048576)), good
	}
	op := place(opName, 12, name)
	if op < 0 || !marksMay(1, op, u, v) || im < 0 || im > 65535 {
		return 0, false
	}
	return uint32(1<<30 + bit(u, 1<<29) + bit(v, 1<<28) + registers + op<<16 + im), true
}

// wantBare is the line that stands for w in a text, be it an instruction or
// not.
func wantBare(w uint32) string {
	if s, ok := wantLine(w); ok {
		return s
	}
	return fmt.Sprintf("#%08x", w)
}

// wantWords is the words, or the number of the first line that is none.
func wantWords(s string) ([]uint32, int, bool) {
	lines := strings.SplitAfter(s, "\n")
	var words []uint32
	for i, l := range lines[:len(lines)-1] {
		l = strings.TrimSuffix(l, "\n")
		w, ok := wantWord(l)
		if barePattern.MatchString(l) {
			n, _ := strconv.ParseInt(l[1:], 16, 64)
			w = uint32(n)
			_, instruction := wantLine(w)
			ok = !instruction
		}
		if !ok {
			return nil, i, false
		}
		words = append(words, w)
	}
	if lines[len(lines)-1] != "" {
		return nil, len(lines) - 1, false
	}
	return words, 0, true
}
