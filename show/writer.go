package show

import "spinet/api"

// writer hands the tokens of a module's things to put, from the left. What it
// is given has been checked: each thing has the parts that its kind asks for.
type writer struct {
	put func(api.Token)
}

// fixed writes a token that the grammar has in " ": of these the keywords alone
// begin with a letter.
func (w writer) fixed(text string) {
	kind := api.TokSign
	if text[0] >= 'A' && text[0] <= 'Z' {
		kind = api.TokKey
	}
	w.put(api.Token{Kind: kind, Text: text})
}

func (w writer) name(text string) {
	w.put(api.Token{Kind: api.TokName, Text: text})
}

func (w writer) def(name string, export bool) {
	w.name(name)
	if export {
		w.fixed("*")
	}
}

// list writes one behind the other, with that token between two.
func list[T any](w writer, between string, l []T, one func(T)) {
	for i, x := range l {
		if i > 0 {
			w.fixed(between)
		}
		one(x)
	}
}

// pairs writes two lists as one: each entry with the one that goes with it.
func pairs[A, B any](w writer, between string, l []A, with []B, one func(A, B)) {
	for i, x := range l {
		if i > 0 {
			w.fixed(between)
		}
		one(x, with[i])
	}
}

// ended writes one behind the other, each with its ";".
func ended[T any](w writer, l []T, one func(T)) {
	for _, x := range l {
		one(x)
		w.fixed(";")
	}
}

// section writes a keyword and what is declared behind it; of an empty list
// nothing, not even the keyword.
func section[T any](w writer, keyword string, l []T, one func(T)) {
	if len(l) > 0 {
		w.fixed(keyword)
		ended(w, l, one)
	}
}

// option writes a part that may lack, of a list with one entry or none, and the
// token ahead of it.
func option[T any](w writer, ahead string, l []T, one func(T)) {
	for _, x := range l {
		w.fixed(ahead)
		one(x)
	}
}
