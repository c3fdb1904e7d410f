package parse_test

import (
	"reflect"
	"slices"
	"strconv"
	"strings"

	"vestry/api"
	"vestry/lex"
)

// The fault of a source, worked out apart from the package: the chapter's rules
// are followed in all ways at once, token by token. A symbol ends in a number
// where it is counted: how deep it stands, or how many of a list there may be yet.

// rules are the chapter's, with # for a symbol's number, + and - for one more and one less.
// LONG and NEST stand where a symbol may not be any more.
var rules = strings.Split(`script = states8 END
one = expr0 END
states# = state more_states-
more_states# = | ; states#
state = CREATE TABLE NAME ( columns8 PRIMARY KEY ( NAME ) )
state = DROP TABLE NAME
state = INSERT INTO NAME VALUES rows16
state = UPDATE NAME SET sets8 where
state = DELETE FROM NAME where
state = SELECT items8 FROM NAME join where group order limit
columns# = column , more_columns-
more_columns# = | columns#
column = NAME kind not_null unique
kind = INT | TEXT
not_null = | NOT NULL
unique = | UNIQUE
rows# = ( literals8 ) more_rows-
more_rows# = | , rows#
literals# = literal more_literals-
more_literals# = | , literals#
literal = NULL | NUM | - NUM | STRING
sets# = NAME = expr0 more_sets-
more_sets# = | , sets#
where = | WHERE expr0
items# = item more_items-
more_items# = | , items#
item = * | COUNT ( * ) | sum_of ( expr0 ) | expr0
sum_of = COUNT | SUM | MIN | MAX
join = | JOIN NAME ON expr0
group = | GROUP BY col
order = | ORDER BY col desc
desc = | DESC
limit = | LIMIT NUM
col = NAME | NAME . NAME
expr# = and# ors#
ors# = | OR and# ors#
and# = not# ands#
ands# = | AND not# ands#
not# = NOT not+ | test#
test# = sum# against#
against# = | compare sum# | IS not_or_none NULL
compare = = | <> | < | <= | > | >=
not_or_none = | NOT
sum# = term# terms#
terms# = | + term# terms# | - term# terms#
term# = factor# factors#
factors# = | * factor# factors# | / factor# factors# | % factor# factors#
factor# = literal | col | - factor+ | ( expr+ )`, "\n")

// grammar tells of each symbol, without its number, in which ways it may go on.
var grammar = makeGrammar()

func makeGrammar() map[string][][]string {
	g := map[string][][]string{}
	for _, rule := range rules {
		left, right, _ := strings.Cut(rule, " = ")
		left = strings.TrimSuffix(left, "#")
		for _, way := range strings.Split(right, "|") {
			g[left] = append(g[left], strings.Fields(way))
		}
	}
	return g
}

// stack is what must still come, the next symbol first.
type stack struct {
	top  string
	rest *stack
}

// counted parts a symbol from its number.
func counted(symbol string) (string, int) {
	name := strings.TrimRight(symbol, "0123456789")
	n, _ := strconv.Atoi(symbol[len(name):])
	return name, n
}

// refusal is what stands in the place of a symbol that may not be any more.
func refusal(name string, n int) string {
	switch name {
	case "expr", "not", "factor":
		if n > 10 {
			return "NEST"
		}
	case "states", "columns", "rows", "literals", "sets", "items":
		if n == 0 {
			return "LONG"
		}
	}
	return ""
}

// numbered gives a symbol of a rule its number; signs alone are no symbols of that kind.
func numbered(symbol string, n int) string {
	if len(symbol) == 1 {
		return symbol
	}
	name := symbol[:len(symbol)-1]
	switch symbol[len(symbol)-1] {
	case '#':
		return name + strconv.Itoa(n)
	case '+':
		return name + strconv.Itoa(n+1)
	case '-':
		return name + strconv.Itoa(n-1)
	}
	return symbol
}

// unfold are all stacks with a token on top that s may become.
func unfold(s *stack, out []*stack) []*stack {
	name, n := counted(s.top)
	if r := refusal(name, n); r != "" {
		return append(out, &stack{r, s.rest})
	}
	ways := grammar[name]
	if ways == nil {
		return append(out, s)
	}
	for _, way := range ways {
		rest := s.rest
		for _, symbol := range slices.Backward(way) {
			rest = &stack{numbered(symbol, n), rest}
		}
		out = unfold(rest, out)
	}
	return out
}

// matches tells whether a token may stand for a symbol.
func matches(symbol string, t api.Token) bool {
	switch t.Kind {
	case api.TokName:
		return symbol == "NAME"
	case api.TokNum:
		return symbol == "NUM"
	case api.TokText:
		return symbol == "STRING"
	case api.TokEnd:
		return symbol == "END"
	}
	return symbol == t.Text
}

// same tells whether two stacks are alike.
func same(a, b *stack) bool {
	for ; a != nil && b != nil && a != b; a, b = a.rest, b.rest {
		if a.top != b.top {
			return false
		}
	}
	return a == b
}

// faultOf is the fault of a source that goes as a symbol goes.
func faultOf(symbol, s string) api.Fault {
	tokens, f := lex.Tokens(s)
	if f.Code != api.OK {
		return f
	}
	stacks := []*stack{{top: symbol}}
	for _, t := range tokens {
		var open []*stack
		for _, one := range stacks {
			open = unfold(one, open)
		}
		stacks = nil
		for _, one := range open {
			known := func(other *stack) bool { return same(one.rest, other) }
			if matches(one.top, t) && !slices.ContainsFunc(stacks, known) {
				stacks = append(stacks, one.rest)
			}
		}
		if len(stacks) == 0 {
			return api.Fault{Code: refused(open), At: t.At}
		}
		if t.Kind == api.TokEnd {
			return api.Fault{}
		}
	}
	return api.Fault{}
}

// refused is what is told of a token that none of the stacks has on top.
func refused(open []*stack) api.Errno {
	has := func(symbol string) bool {
		return slices.ContainsFunc(open, func(s *stack) bool { return s.top == symbol })
	}
	switch {
	case has("LONG"):
		return api.ErrLong
	case has("NEST"):
		return api.ErrNest
	}
	return api.ErrForm
}

// What is read, worked out apart from the package, of tokens with which nothing
// is wrong: they are parted where what binds least stands.

// plainTokens are tokens without places and the end.
func plainTokens(s string) []api.Token {
	l, _ := lex.Tokens(s)
	for i := range l {
		l[i].At = 0
	}
	return l[:len(l)-1]
}

// symbol is a word or a sign as a token.
func symbol(s string) api.Token {
	if s[0] >= 'A' && s[0] <= 'Z' {
		return api.Token{Kind: api.TokWord, Text: s}
	}
	return api.Token{Kind: api.TokSign, Text: s}
}

// outside are the places of some words or signs that stand in no brackets.
func outside(l []api.Token, symbols ...string) []int {
	var out []int
	depth := 0
	for i, t := range l {
		switch t {
		case symbol("("):
			depth++
		case symbol(")"):
			depth--
		}
		if depth == 0 && slices.ContainsFunc(symbols, func(s string) bool { return t == symbol(s) }) {
			out = append(out, i)
		}
	}
	return out
}

// split parts tokens at a sign that stands in no brackets.
func split(l []api.Token, sign string) [][]api.Token {
	var out [][]api.Token
	from := 0
	for _, at := range outside(l, sign) {
		out = append(out, l[from:at])
		from = at + 1
	}
	return append(out, l[from:])
}

// endsOperand tells whether an operator may stand right behind a token.
func endsOperand(t api.Token) bool {
	return t.Kind == api.TokName || t.Kind == api.TokNum || t.Kind == api.TokText || t == symbol("NULL") || t == symbol(")")
}

// exprOf is the expression of tokens.
func exprOf(l []api.Token) api.Expr {
	for i, one := range levels {
		if i == tests {
			if l[0] == symbol("NOT") {
				return not(exprOf(l[1:]))
			}
			if at := outside(l, "IS"); len(at) > 0 && len(l)-at[0] == 3 {
				return not(isNull(exprOf(l[:at[0]])))
			} else if len(at) > 0 {
				return isNull(exprOf(l[:at[0]]))
			}
		}
		var symbols []string
		for s := range one {
			symbols = append(symbols, s)
		}
		for _, at := range slices.Backward(outside(l, symbols...)) {
			if at > 0 && endsOperand(l[at-1]) {
				return op(one[l[at].Text], exprOf(l[:at]), exprOf(l[at+1:]))
			}
		}
	}
	return factorOf(l)
}

// factorOf is the expression of tokens that no operator parts.
func factorOf(l []api.Token) api.Expr {
	switch {
	case l[0] == symbol("("):
		return exprOf(l[1 : len(l)-1])
	case l[0].Kind == api.TokName && len(l) == 3:
		return colOf(l[0].Text, l[2].Text)
	case l[0].Kind == api.TokName:
		return col(l[0].Text)
	case l[0] == symbol("-") && l[1].Kind != api.TokNum:
		return neg(exprOf(l[1:]))
	}
	return val(literalOf(l))
}

// literalOf is the value of tokens.
func literalOf(l []api.Token) api.Value {
	switch {
	case l[0] == symbol("-"):
		return num(0 - l[1].Num)
	case l[0].Kind == api.TokNum:
		return num(l[0].Num)
	case l[0].Kind == api.TokText:
		return text(l[0].Text)
	}
	return null
}

// stateOf is the statement of tokens.
func stateOf(l []api.Token) api.Statement {
	s := api.Statement{Limit: -1}
	switch l[0].Text {
	case "CREATE":
		return createOf(l)
	case "DROP":
		s.Kind, s.Table = api.StDrop, l[2].Text
	case "INSERT":
		s.Kind, s.Table = api.StInsert, l[2].Text
		for _, row := range split(l[4:], ",") {
			var values []api.Value
			for _, one := range split(row[1:len(row)-1], ",") {
				values = append(values, literalOf(one))
			}
			s.Rows = append(s.Rows, values)
		}
	case "UPDATE":
		parts := clauses(l[2:], "SET", "WHERE")
		s.Kind, s.Table = api.StUpdate, l[1].Text
		for _, one := range split(parts["SET"], ",") {
			s.Sets = append(s.Sets, api.Set{Name: one[0].Text, Expr: exprOf(one[2:])})
		}
		s.Where = oneOrNone(parts["WHERE"])
	case "DELETE":
		s.Kind, s.Table = api.StDelete, l[2].Text
		s.Where = oneOrNone(clauses(l[3:], "WHERE")["WHERE"])
	default:
		return selectOf(l)
	}
	return s
}

// createOf is the statement of tokens that begin with CREATE.
func createOf(l []api.Token) api.Statement {
	s := api.Statement{Kind: api.StCreate, Table: l[2].Text, Limit: -1}
	parts := split(l[4:len(l)-1], ",")
	for _, one := range parts[:len(parts)-1] {
		c := api.Column{Name: one[0].Text, Kind: api.KindText, NotNull: slices.Contains(one, symbol("NULL")), Unique: slices.Contains(one, symbol("UNIQUE"))}
		if one[1] == symbol("INT") {
			c.Kind = api.KindNum
		}
		s.Columns = append(s.Columns, c)
	}
	s.Primary = parts[len(parts)-1][3].Text
	return s
}

// selectOf is the statement of tokens that begin with SELECT.
func selectOf(l []api.Token) api.Statement {
	parts := clauses(l, "SELECT", "FROM", "JOIN", "ON", "WHERE", "GROUP", "ORDER", "DESC", "LIMIT")
	s := api.Statement{Kind: api.StSelect, Table: parts["FROM"][0].Text, Limit: -1}
	for _, one := range split(parts["SELECT"], ",") {
		s.Items = append(s.Items, itemOfTokens(one))
	}
	if join := parts["JOIN"]; join != nil {
		s.Join = join[0].Text
	}
	s.On, s.Where = oneOrNone(parts["ON"]), oneOrNone(parts["WHERE"])
	if group := parts["GROUP"]; group != nil {
		s.Group = oneOrNone(group[1:])
	}
	if order := parts["ORDER"]; order != nil {
		s.Order = oneOrNone(order[1:])
	}
	_, s.Desc = parts["DESC"]
	if limit := parts["LIMIT"]; limit != nil {
		s.Limit = limit[0].Num
	}
	return s
}

// itemOfTokens is the item of tokens.
func itemOfTokens(l []api.Token) api.Item {
	kinds := map[string]int{"COUNT": api.ItemCount, "SUM": api.ItemSum, "MIN": api.ItemMin, "MAX": api.ItemMax}
	switch {
	case l[0] == symbol("*"):
		return all
	case l[0].Kind != api.TokWord || kinds[l[0].Text] == 0:
		return item(exprOf(l))
	case l[2] == symbol("*"):
		return api.Item{Kind: api.ItemRows}
	}
	return itemOf(kinds[l[0].Text], exprOf(l[2:len(l)-1]))
}

// clauses are what stands behind each of some words, up to the next one.
func clauses(l []api.Token, words ...string) map[string][]api.Token {
	out := map[string][]api.Token{}
	to := len(l)
	for _, at := range slices.Backward(outside(l, words...)) {
		out[l[at].Text] = l[at+1 : to]
		to = at
	}
	return out
}

func oneOrNone(l []api.Token) []api.Expr {
	if len(l) == 0 {
		return nil
	}
	return exprs(exprOf(l))
}

// statesOf are the statements of a source with which nothing is wrong.
func statesOf(s string) []api.Statement {
	var l []api.Statement
	for _, one := range split(plainTokens(s), ";") {
		l = append(l, stateOf(one))
	}
	return l
}

// likeExpr and likeStates tell whether two answers are the same.
func likeExpr(a, b api.Expr) bool          { return reflect.DeepEqual(a, b) }
func likeStates(a, b []api.Statement) bool { return reflect.DeepEqual(a, b) }
