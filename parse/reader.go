package parse

import (
	"vestry/api"
	"vestry/lex"
)

// reader goes over the tokens of a source, up to the first one with which
// something is wrong. Behind that it sees nothing that could be read, so that
// whoever reads comes to an end without asking for the fault.
type reader struct {
	tokens []api.Token // what is not read yet; the end, which nobody reads, stays
	depth  int
	fault  api.Fault
}

// choice is a word or a sign, and the number of what it stands for.
type choice struct {
	text   string
	number int
}

// none is the number that no choice stands for.
const none = 0

// newReader is ahead of a source's first token.
func newReader(s string) *reader {
	tokens, f := lex.Tokens(s)
	return &reader{tokens: tokens, fault: f}
}

// now is the token that is to be read.
func (r *reader) now() api.Token {
	if r.fault.Code != api.OK {
		return api.Token{}
	}
	return r.tokens[0]
}

// behind is the token behind that one, which is not the end.
func (r *reader) behind() api.Token { return r.tokens[1] }

// next passes a token, which is not the end.
func (r *reader) next() { r.tokens = r.tokens[1:] }

// fail tells what is wrong with the token that is to be read; of several
// things the first one stays.
func (r *reader) fail(e api.Errno) {
	if r.fault.Code == api.OK {
		r.fault = api.Fault{Code: e, At: r.now().At}
	}
}

// end is the fault of the whole, of which nothing may be left.
func (r *reader) end() api.Fault {
	if r.now().Kind != api.TokEnd {
		r.fail(api.ErrForm)
	}
	return r.fault
}

// is tells whether a word or a sign stands there. (Texts may have the same bytes.)
func (r *reader) is(text string) bool {
	t := r.now()
	return (t.Kind == api.TokWord || t.Kind == api.TokSign) && t.Text == text
}

// skip passes a word or a sign, if it stands there.
func (r *reader) skip(text string) bool {
	stands := r.is(text)
	if stands {
		r.next()
	}
	return stands
}

// comma passes what stands between most things.
func (r *reader) comma() bool { return r.skip(",") }

// semicolon passes what stands between statements.
func (r *reader) semicolon() bool { return r.skip(";") }

// must passes words and signs, which all have to stand there.
func (r *reader) must(texts ...string) {
	for _, text := range texts {
		if !r.skip(text) {
			r.fail(api.ErrForm)
		}
	}
}

// choose passes the one of some words or signs that stands there, and answers
// its number.
func (r *reader) choose(l ...choice) int {
	for _, c := range l {
		if r.skip(c.text) {
			return c.number
		}
	}
	return none
}

// name reads a name.
func (r *reader) name() string {
	t := r.now()
	if t.Kind != api.TokName {
		r.fail(api.ErrForm)
		return ""
	}
	r.next()
	return t.Text
}

// number reads a number.
func (r *reader) number() int {
	t := r.now()
	if t.Kind != api.TokNum {
		r.fail(api.ErrForm)
		return 0
	}
	r.next()
	return t.Num
}

// part reads what stands behind a word, and behind those that follow it; there
// is nothing, if the first one does not stand there.
func (r *reader) part(read func() api.Expr, first string, others ...string) []api.Expr {
	if !r.skip(first) {
		return nil
	}
	r.must(others...)
	return []api.Expr{read()}
}

// list reads one or more, as long as there are more. Whatever stands where one
// beyond the most would begin is told to be too many.
func list[T any](r *reader, most int, one func() T, more func() bool) []T {
	var l []T
	for going := true; going; going = more() {
		if len(l) == most {
			r.fail(api.ErrLong)
			return nil
		}
		l = append(l, one())
	}
	return l
}
