package printer

import (
	"vestry/api"
	"vestry/lex"
)

// row is a row of tokens, to which others are put.
type row struct{ tokens []api.Token }

// put puts tokens behind those that are there.
func (r *row) put(l ...api.Token) { r.tokens = append(r.tokens, l...) }

// fixed puts words and signs, which stand for themselves.
func (r *row) fixed(texts ...string) {
	for _, text := range texts {
		kind := api.TokSign
		if 'A' <= text[0] && text[0] <= 'Z' {
			kind = api.TokWord
		}
		r.put(api.Token{Kind: kind, Text: text})
	}
}

// name puts a name.
func (r *row) name(s string) { r.put(api.Token{Kind: api.TokName, Text: s}) }

// number puts a number from 0 on.
func (r *row) number(n int) { r.put(api.Token{Kind: api.TokNum, Num: n}) }

// text puts a text.
func (r *row) text(s string) { r.put(api.Token{Kind: api.TokText, Text: s}) }

// writer writes what is right as a row of tokens, and sees how deep it goes.
type writer struct {
	row
	depth   int // of what is being written
	deepest int // of all that was written
}

// source is what was written, as one text.
func (w *writer) source() (string, api.Errno) {
	if w.deepest > api.MaxNest {
		return "", api.ErrNest
	}
	s := lex.Write(w.tokens...)
	if len(s) > api.MaxSource {
		return "", api.ErrLong
	}
	return s, api.OK
}

// list writes all of a list, with a sign between each two.
func list[T any](w *writer, between string, l []T, write func(one T)) {
	for i, one := range l {
		if i > 0 {
			w.fixed(between)
		}
		write(one)
	}
}
