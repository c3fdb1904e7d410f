package lex_test

import (
	"math/big"
	"math/rand"
	"regexp"
	"slices"
	"strings"
	"testing"
	"unsafe"

	"vestry/api"
	"vestry/lex"
)

// allWords are the words, as the chapter has them.
const allWords = "AND, BY, COUNT, CREATE, DELETE, DESC, DROP, FROM, GROUP, INSERT, INT, INTO, IS, JOIN, KEY, LIMIT, MAX, MIN, NOT, NULL, ON, OR, ORDER, PRIMARY, SELECT, SET, SUM, TABLE, TEXT, UNIQUE, UPDATE, VALUES, WHERE"

// allSigns are the signs, as the chapter has them.
const allSigns = "<> <= >= ( ) , ; . * + - / % = < >"

const (
	greatest     = "9223372036854775807"
	justTooGreat = "9223372036854775808"
)

func wordList() []string { return strings.Split(allWords, ", ") }
func signList() []string { return strings.Split(allSigns, " ") }

func name(s string, at int) api.Token { return api.Token{Kind: api.TokName, Text: s, At: at} }
func word(s string, at int) api.Token { return api.Token{Kind: api.TokWord, Text: s, At: at} }
func num(n int, at int) api.Token     { return api.Token{Kind: api.TokNum, Num: n, At: at} }
func text(s string, at int) api.Token { return api.Token{Kind: api.TokText, Text: s, At: at} }
func sign(s string, at int) api.Token { return api.Token{Kind: api.TokSign, Text: s, At: at} }
func end(at int) api.Token            { return api.Token{Kind: api.TokEnd, At: at} }

func wantTokens(t *testing.T, s string, want ...api.Token) {
	t.Helper()
	if l, f := lex.Tokens(s); !slices.Equal(l, want) || f != (api.Fault{}) {
		t.Errorf("Tokens(%q): %v, %v, not %v", s, l, f, want)
	}
}

func wantFault(t *testing.T, s string, e api.Errno, at int) {
	t.Helper()
	if l, f := lex.Tokens(s); len(l) != 0 || f != (api.Fault{Code: e, At: at}) {
		t.Errorf("Tokens(%q): %v, %v, not {%v, %d}", s, l, f, e, at)
	}
}

// The tokens by expressions of the library, to hold the package against. What
// is wrong with a row of letters and digits is told apart by further ones.
var (
	blankRow  = regexp.MustCompile(`^(?:[\t\n\r ]|--[^\n]*)+`)
	letterRow = regexp.MustCompile(`^[a-zA-Z0-9_]+`)
	aName     = regexp.MustCompile(`^[a-z_][a-z0-9_]*$`)
	aWord     = regexp.MustCompile(`^(?:` + strings.ReplaceAll(allWords, ", ", "|") + `)$`)
	aNumber   = regexp.MustCompile(`^[0-9]+$`)
	aText     = regexp.MustCompile(`^'((?:[^']|'')*)('?)`)
	aSign     = regexp.MustCompile(`^(?:<>|<=|>=|[(),;.*+\-/%=<>])`)
)

// cutRow is what a row of letters, digits and _ is as a token.
func cutRow(row string) (api.Token, api.Errno) {
	switch {
	case aName.MatchString(row) && len(row) > 16:
		return api.Token{}, api.ErrLong
	case aName.MatchString(row):
		return name(row, 0), api.OK
	case aWord.MatchString(row):
		return word(row, 0), api.OK
	case !aNumber.MatchString(row):
		return api.Token{}, api.ErrForm
	}
	n, _ := new(big.Int).SetString(row, 10)
	if !n.IsInt64() {
		return api.Token{}, api.ErrNum
	}
	return num(int(n.Int64()), 0), api.OK
}

// cutPiece is the token that s begins with, and what it takes of s.
func cutPiece(s string) (api.Token, string, api.Errno) {
	if row := letterRow.FindString(s); row != "" {
		t, e := cutRow(row)
		return t, row, e
	}
	if m := aText.FindStringSubmatch(s); m != nil {
		inner := strings.ReplaceAll(m[1], "''", "'")
		switch {
		case len(inner) > 40:
			return api.Token{}, "", api.ErrLong
		case m[2] == "":
			return api.Token{}, "", api.ErrEnd
		}
		return text(inner, 0), m[0], api.OK
	}
	if row := aSign.FindString(s); row != "" {
		return sign(row, 0), row, api.OK
	}
	return api.Token{}, "", api.ErrForm
}

// tokensOf are a source's tokens, worked out apart from the package, and the rows of blanks ahead of each.
func tokensOf(s string) (l []api.Token, blanks []string, f api.Fault) {
	if len(s) > 2000 {
		return nil, nil, api.Fault{Code: api.ErrLong, At: -1}
	}
	for at := 0; ; {
		blank := blankRow.FindString(s[at:])
		blanks = append(blanks, blank)
		at += len(blank)
		if at == len(s) {
			return append(l, end(at)), blanks, api.Fault{}
		}
		t, taken, e := cutPiece(s[at:])
		if e != api.OK {
			return nil, nil, api.Fault{Code: e, At: at}
		}
		t.At = at
		l = append(l, t)
		at += len(taken)
	}
}

// placeless are tokens without their places, and without ends.
func placeless(l []api.Token) []api.Token {
	var out []api.Token
	for _, t := range l {
		t.At = 0
		if t.Kind != api.TokEnd {
			out = append(out, t)
		}
	}
	return out
}

// holdTokens holds what the package says of a source against what is worked out apart, and against what follows.
func holdTokens(t *testing.T, s string) {
	t.Helper()
	want, blanks, fault := tokensOf(s)
	l, f := lex.Tokens(s)
	if !slices.Equal(l, want) || f != fault {
		t.Fatalf("Tokens(%q): %v, %v, not %v, %v", s, l, f, want, fault)
	}
	isName := fault.Code == api.OK && len(want) == 2 && want[0].Kind == api.TokName && want[0].Text == s
	if lex.Name(s) != isName {
		t.Fatalf("Name(%q): %v", s, !isName)
	}
	if fault.Code != api.OK {
		return
	}
	written := lex.Write(l...)
	if len(written) <= api.MaxSource {
		again, f := lex.Tokens(written)
		if !slices.Equal(placeless(again), placeless(l)) || f.Code != api.OK || lex.Write(again...) != written {
			t.Fatalf("Tokens(%q), written as %q: %v, %v", s, written, again, f)
		}
	}
	holdPieces(t, s, l, blanks)
}

// holdPieces holds the pieces from one token to the next one against the whole.
func holdPieces(t *testing.T, s string, l []api.Token, blanks []string) {
	t.Helper()
	if ahead, f := lex.Tokens(s[:l[0].At]); len(ahead) != 1 || f.Code != api.OK {
		t.Fatalf("%q: ahead of the first token stands %v, %v", s, ahead, f)
	}
	for i, one := range l[:len(l)-1] {
		piece := s[one.At:l[i+1].At]
		got, f := lex.Tokens(piece)
		if !slices.Equal(placeless(got), placeless(l[i:i+1])) || got[0].At != 0 || f.Code != api.OK {
			t.Fatalf("%q: from %v to the next: %v, %v", s, one, got, f)
		}
		// What is not the token itself is blank.
		if rest, f := lex.Tokens(piece[len(piece)-len(blanks[i+1]):]); len(rest) != 1 || f.Code != api.OK {
			t.Fatalf("%q: between %v and the next stands %v, %v", s, one, rest, f)
		}
	}
}

func TestExamplesOfTokens(t *testing.T) { // P8.1
	wantTokens(t, "SELECT a1,'it''s' -- x", word("SELECT", 0), name("a1", 7), sign(",", 9), text("it's", 10), end(22))
	wantTokens(t, "<=> 007", sign("<=", 0), sign(">", 2), num(7, 4), end(7))
	wantFault(t, "1a", api.ErrForm, 0)
	wantFault(t, "SELEC", api.ErrForm, 0)
	wantFault(t, "'a", api.ErrEnd, 0)
}

func TestTokensOfBlanks(t *testing.T) { // P8.1
	for _, s := range []string{"", " ", "\t", "\n", "\r", "\t\n\r ", "--", "---", "-- x", "--\n", "-- 'x\n", "--\n--", "  --SELEC 1a \x00\xff ! --\r \n\t--", " -- x\n -- y\n "} {
		wantTokens(t, s, end(len(s)))
		wantTokens(t, s+"\na", name("a", len(s)+1), end(len(s)+2))
	}
	// No byte but 10 ends a remark.
	for c := range 256 {
		s := "--" + string([]byte{byte(c)}) + "a"
		if c == 10 {
			wantTokens(t, s, name("a", 3), end(4))
			continue
		}
		wantTokens(t, s, end(4))
		wantTokens(t, s+"\n5", num(5, 5), end(6))
	}
	// A single - begins none, nor does - - or one in a text.
	wantTokens(t, "-", sign("-", 0), end(1))
	wantTokens(t, "- -a", sign("-", 0), sign("-", 2), name("a", 3), end(4))
	wantTokens(t, "-\n-a", sign("-", 0), sign("-", 2), name("a", 3), end(4))
	wantTokens(t, "'--'a", text("--", 0), name("a", 4), end(5))
	wantTokens(t, "a--b\nc", name("a", 0), name("c", 5), end(6))
	wantTokens(t, "5--3", num(5, 0), end(4))
	wantTokens(t, "NULL--NULL", word("NULL", 0), end(10))
	wantTokens(t, "''--'", text("", 0), end(5))
	wantTokens(t, "<-->\n>", sign("<", 0), sign(">", 5), end(6))
	wantTokens(t, "*---\n-", sign("*", 0), sign("-", 5), end(6))
}

func TestTokensOfEveryByte(t *testing.T) { // P8.1
	for c := range 256 {
		s := string([]byte{byte(c)})
		switch {
		case strings.Contains("\t\n\r ", s):
			wantTokens(t, s, end(1))
		case 'a' <= c && c <= 'z' || c == '_':
			wantTokens(t, s, name(s, 0), end(1))
		case '0' <= c && c <= '9':
			wantTokens(t, s, num(c-'0', 0), end(1))
		case strings.Contains("(),;.*+-/%=<>", s):
			wantTokens(t, s, sign(s, 0), end(1))
		case c == '\'':
			wantFault(t, s, api.ErrEnd, 0)
		default:
			wantFault(t, s, api.ErrForm, 0)
		}
		// In a text every byte but a quote stands for itself.
		if c != '\'' {
			wantTokens(t, "'"+s+"'", text(s, 0), end(3))
			wantTokens(t, "'a"+s+"''b'", text("a"+s+"'b", 0), end(7))
		}
	}
}

func TestTokensOfEveryTwoBytes(t *testing.T) { // P8.1, P8.5
	for a := range 256 {
		for b := range 256 {
			holdTokens(t, string([]byte{byte(a), byte(b)}))
		}
	}
}

func TestTokensOfSigns(t *testing.T) { // P8.1
	for _, a := range signList() {
		wantTokens(t, a, sign(a, 0), end(len(a)))
		wantTokens(t, " "+a+"a", sign(a, 1), name("a", 1+len(a)), end(2+len(a)))
		for _, b := range signList() {
			wantTokens(t, a+" "+b, sign(a, 0), sign(b, len(a)+1), end(len(a)+1+len(b)))
		}
	}
	wantTokens(t, "<>=", sign("<>", 0), sign("=", 2), end(3))
	wantTokens(t, "<<>>", sign("<", 0), sign("<>", 1), sign(">", 3), end(4))
	wantTokens(t, "=<=>", sign("=", 0), sign("<=", 1), sign(">", 3), end(4))
	wantTokens(t, "==", sign("=", 0), sign("=", 1), end(2))
	wantTokens(t, ">>==", sign(">", 0), sign(">=", 1), sign("=", 3), end(4))
	wantTokens(t, "< =", sign("<", 0), sign("=", 2), end(3))
	wantTokens(t, "->", sign("-", 0), sign(">", 1), end(2))
	for _, s := range []string{"!", "!=", "\"a\"", "#", "$1", "&", ":", "?", "@", "[", "\\", "]", "^", "`", "{", "|", "}", "~", "\x00", "\v", "\f", "\x7f", "\x80", "\xc2\xa0", "\u00e9", "\ufeff", "\u2028"} {
		wantFault(t, s, api.ErrForm, 0)
		wantFault(t, "a "+s, api.ErrForm, 2)
		wantFault(t, "<"+s, api.ErrForm, 1)
		wantFault(t, "'a'"+s, api.ErrForm, 3)
		// What is no letter runs no name, word or number on: the fault is its own.
		wantFault(t, "a"+s, api.ErrForm, 1)
		wantFault(t, "SET"+s, api.ErrForm, 3)
		wantFault(t, "12"+s, api.ErrForm, 2)
	}
}

func TestTokensOfNames(t *testing.T) { // P8.1
	for _, s := range []string{"a", "z", "_", "__", "_1", "a1", "a_", "a_1b", "x09", "select", "null", "abcdefghijklmnop", "qrstuvwxyz_01234", "________________", "a23456789_123456"} {
		wantTokens(t, s, name(s, 0), end(len(s)))
		wantTokens(t, "("+s+".", sign("(", 0), name(s, 1), sign(".", 1+len(s)), end(2+len(s)))
		wantTokens(t, s+"'a'"+s, name(s, 0), text("a", len(s)), name(s, len(s)+3), end(2*len(s)+3))
	}
	for n := 1; n < 60; n++ {
		for _, c := range []string{"a", "z", "_"} {
			s := strings.Repeat(c, n)
			if n <= 16 {
				wantTokens(t, s, name(s, 0), end(n))
			} else {
				wantFault(t, " "+s+" 1a", api.ErrLong, 1)
			}
			// That it runs on is told ahead of its length.
			wantFault(t, s+"A", api.ErrForm, 0)
		}
	}
	wantFault(t, strings.Repeat("a", api.MaxSource), api.ErrLong, 0)
	wantFault(t, "a23456789_1234567", api.ErrLong, 0)
	for _, s := range []string{"aA", "aA1", "abcZ", "_A", "a1Z", "selecT", "abcdefghijklmnopQ"} {
		wantFault(t, s, api.ErrForm, 0)
		wantFault(t, "5 "+s+"!", api.ErrForm, 2)
	}
}

func TestTokensOfWords(t *testing.T) { // P8.1
	words := wordList()
	for _, s := range words {
		wantTokens(t, s, word(s, 0), end(len(s)))
		wantTokens(t, "\n"+s+"(", word(s, 1), sign("(", 1+len(s)), end(2+len(s)))
		wantTokens(t, s+"'a'", word(s, 0), text("a", len(s)), end(len(s)+3))
		lower := strings.ToLower(s)
		wantTokens(t, lower, name(lower, 0), end(len(s)))
		for _, c := range []string{"a", "z", "_", "0", "9"} {
			wantFault(t, s+c, api.ErrForm, 0)
			wantFault(t, s+" "+s+c+" !", api.ErrForm, len(s)+1)
		}
		wantFault(t, s+s, api.ErrForm, 0)
		wantFault(t, s[:1]+lower[1:], api.ErrForm, 0)
		for i := 1; i < len(s); i++ {
			if !slices.Contains(words, s[:i]) {
				wantFault(t, s[:i], api.ErrForm, 0)
			}
		}
		for c := 'A'; c <= 'Z'; c++ {
			if long := s + string(c); !slices.Contains(words, long) {
				wantFault(t, long, api.ErrForm, 0)
			}
		}
	}
	for _, s := range []string{"A", "Z", "X", "ALL", "AS", "ASC", "INTEGER", "TRUE", "BEGIN", "NULLNULL", "ORDERBY", strings.Repeat("A", 17), strings.Repeat("AND", 600)} {
		wantFault(t, s, api.ErrForm, 0)
	}
}

func TestTokensOfNumbers(t *testing.T) { // P8.1
	for s, n := range map[string]int{
		"0": 0, "00": 0, "7": 7, "007": 7, "10": 10, "0100": 100, "4294967296": 1 << 32, "9223372036854775806": api.MaxInt - 1,
		greatest: api.MaxInt, "0" + greatest: api.MaxInt, strings.Repeat("0", 1900) + greatest: api.MaxInt, strings.Repeat("0", 2000): 0,
	} {
		wantTokens(t, s, num(n, 0), end(len(s)))
		if len(s) < 1990 {
			wantTokens(t, "-"+s+".", sign("-", 0), num(n, 1), sign(".", 1+len(s)), end(2+len(s)))
		}
	}
	for _, s := range []string{justTooGreat, "0" + justTooGreat, "9223372036854775809", "18446744073709551615", "18446744073709551616", "18446744073709551617", "10000000000000000000", "99999999999999999999", "36893488147419103232", strings.Repeat("9", 2000), "1" + strings.Repeat("0", 100)} {
		wantFault(t, s, api.ErrNum, 0)
		if len(s) < 1990 {
			wantFault(t, "- "+s, api.ErrNum, 2)
			wantFault(t, s+" !", api.ErrNum, 0)
			// That it runs on is told ahead of its size.
			wantFault(t, s+"a", api.ErrForm, 0)
		}
	}
	for _, s := range []string{"1a", "1z", "1A", "1Z", "1_", "0x10", "1e5", "12SELECT", "1SELEC", "007_", "1_000"} {
		wantFault(t, s, api.ErrForm, 0)
		wantFault(t, "1 "+s, api.ErrForm, 2)
	}
	wantTokens(t, "1.5", num(1, 0), sign(".", 1), num(5, 2), end(3))
	wantTokens(t, "1'a'2", num(1, 0), text("a", 1), num(2, 4), end(5))
	wantTokens(t, "1 a", num(1, 0), name("a", 2), end(3))
	wantTokens(t, "1--\na", num(1, 0), name("a", 4), end(5))
}

func TestTokensOfTexts(t *testing.T) { // P8.1
	for s, want := range map[string]string{
		"''": "", "'a'": "a", "''''": "'", "''''''": "''", "'a'''": "a'", "'''a'": "'a", "'it''s'": "it's", "'a''''b'": "a''b",
		"' '": " ", "'\n'": "\n", "'--'": "--", "'\x00'": "\x00", "'\xff'": "\xff", "'\u00e9\u4e16'": "\u00e9\u4e16", "'\\'": "\\", "'SELECT'": "SELECT", "'\"'": "\"",
	} {
		wantTokens(t, s, text(want, 0), end(len(s)))
		wantTokens(t, "a"+s+"b", name("a", 0), text(want, 1), name("b", 1+len(s)), end(2+len(s)))
		wantTokens(t, s+" "+s, text(want, 0), text(want, len(s)+1), end(2*len(s)+1))
	}
	for _, s := range []string{"'", "'a", "'''", "'a''", "'''''", "'it''s", "' -- '' \n", "'a''b''", "'a;\n", "'" + strings.Repeat("a", 40), "'" + strings.Repeat("''", 40)} {
		wantFault(t, s, api.ErrEnd, 0)
		wantFault(t, "'b' "+s, api.ErrEnd, 4)
	}
}

func TestTokensOfLongTexts(t *testing.T) { // P8.1
	for n := range 130 {
		for written, piece := range map[string]string{"a": "a", "''": "'", "\x00": "\x00", "\n": "\n"} {
			s := "'" + strings.Repeat(written, n)
			if n <= 40 {
				wantTokens(t, s+"'", text(strings.Repeat(piece, n), 0), end(len(s)+1))
				wantFault(t, s, api.ErrEnd, 0)
				continue
			}
			wantFault(t, " "+s+"' !", api.ErrLong, 1)
			// Its length is told ahead of its end.
			wantFault(t, s, api.ErrLong, 0)
		}
	}
	// Lengths are counted in bytes.
	even, odd := strings.Repeat("\u00e9", 20), strings.Repeat("\u00e9", 20)+"e"
	wantTokens(t, "'"+even+"'", text(even, 0), end(42))
	wantFault(t, "'"+odd+"'", api.ErrLong, 0)
	wantFault(t, "'"+strings.Repeat("a", api.MaxSource-1), api.ErrLong, 0)
}

func TestTokensOfLongSources(t *testing.T) { // P8.1
	for _, piece := range []string{" ", "(", "-", "''", "a ", "\x00", "'", "A", "1a "} {
		wantFault(t, strings.Repeat(piece, 2001)[:2001], api.ErrLong, -1)
		wantFault(t, strings.Repeat(piece, 5000), api.ErrLong, -1)
		holdTokens(t, strings.Repeat(piece, 2000)[:2000])
		holdTokens(t, strings.Repeat(piece, 2000)[:1999])
	}
	wantFault(t, strings.Repeat(" ", 1<<20), api.ErrLong, -1)
	wantTokens(t, strings.Repeat(" ", 2000), end(2000))
	if l, f := lex.Tokens(strings.Repeat("(", 2000)); len(l) != 2001 || l[1999] != sign("(", 1999) || l[2000] != end(2000) || f.Code != api.OK {
		t.Errorf("Tokens of 2000 signs: %d, %v", len(l), f)
	}
}

func TestTheFirstFaultIsTold(t *testing.T) { // P8.1
	wrong := []struct {
		s string
		e api.Errno
	}{
		{"!", api.ErrForm}, {"SELEC", api.ErrForm}, {"1a", api.ErrForm}, {"aB", api.ErrForm}, {"SET1", api.ErrForm},
		{strings.Repeat("a", 17), api.ErrLong}, {"'" + strings.Repeat("a", 41) + "'", api.ErrLong}, {justTooGreat, api.ErrNum}, {"'a", api.ErrEnd},
	}
	for _, first := range wrong {
		for _, ahead := range []string{"", " ", "a ", "SELECT ", "5,", "'x' ", "<=", "-- !\n", strings.Repeat("a ", 900)} {
			wantFault(t, ahead+first.s, first.e, len(ahead))
			for _, second := range wrong {
				if first.e != api.ErrEnd {
					wantFault(t, ahead+first.s+" "+second.s, first.e, len(ahead))
				}
			}
		}
	}
}

// someSources are sources in which every kind of token stands.
var someSources = []string{
	"CREATE TABLE t (id INT, n INT, PRIMARY KEY (id)); INSERT INTO t VALUES (1, 5)",
	"SELECT a.b, COUNT(*) FROM a JOIN c ON a.b = c.d WHERE a.b <> -5 AND NOT a.e IS NULL GROUP BY a.b ORDER BY a.b DESC LIMIT 007 -- x",
	"UPDATE t SET a = a + 1 * (b - 2) / 3 % 4, b = 'it''s' WHERE a >= 2 OR b <= '' OR b < 'z' OR a > 9223372036854775807",
	"\t\r\n--\n--x\n_a1<>\n''--'",
	"", " ", "a", "''''", "-", "- -", "< =", "<=",
}

func TestTokensAndWhatFollows(t *testing.T) { // P8.1, P8.5
	for _, s := range someSources {
		holdTokens(t, s)
		for i := range s {
			holdTokens(t, s[:i])
			holdTokens(t, s[i:])
		}
	}
}

func TestTokensOfEveryShortSource(t *testing.T) { // P8.1, P8.5
	const few = "aO1_'-<=> \n!"
	var grow func(s string)
	grow = func(s string) {
		holdTokens(t, s)
		if len(s) == 4 {
			return
		}
		for i := range few {
			grow(s + few[i:i+1])
		}
	}
	grow("")
}

// somePieces are what random sources are made of.
func somePieces() []string {
	return slices.Concat(wordList(), signList(), []string{
		" ", " ", "\n", "\t", "\r", "--", "-- x\n", "--'\n", "a", "b1", "_", "z_9", "abcdefghijklmnop", "0", "7", "007", greatest,
		"'", "''", "'a'", "'it''s'", "' -- '", "'\n'", "'\x00\xff'", "'" + strings.Repeat("q", 40) + "'", "'" + strings.Repeat("''", 40) + "'",
	})
}

func TestTokensOfSomeSources(t *testing.T) { // P8.1, P8.5
	source := rand.New(rand.NewSource(8))
	pieces := somePieces()
	for i := range 20000 {
		var s strings.Builder
		for range source.Intn(20) {
			s.WriteString(pieces[source.Intn(len(pieces))])
			if i%2 == 0 || source.Intn(3) == 0 {
				s.WriteByte(' ')
			}
		}
		holdTokens(t, s.String())
	}
}

func TestWords(t *testing.T) { // P8.2
	if l := lex.Words(); !slices.Equal(l, wordList()) || !slices.IsSorted(l) || len(l) != 33 {
		t.Errorf("Words: %v", l)
	}
	l := lex.Words()
	l = l[:cap(l)]
	for i := range l {
		l[i] = "NO"
	}
	if l := lex.Words(); !slices.Equal(l, wordList()) {
		t.Errorf("Words, behind a change of an answer: %v", l)
	}
	wantFault(t, "NO", api.ErrForm, 0)
	wantTokens(t, "WHERE", word("WHERE", 0), end(5))
}

func TestName(t *testing.T) { // P8.2
	for _, s := range []string{"a", "z", "_", "_0", "a1", "a_b", "__", "select", "abcdefghijklmnop", "________________", "a000000000000000"} {
		if !lex.Name(s) {
			t.Errorf("Name(%q): false", s)
		}
	}
	for _, s := range []string{"", " ", "1", "1a", "A", "aA", "Aa", "SELECT", "a b", " a", "a ", "a\n", "\na", "a--", "--a", "a.b", "'a'", "a'", "-a", "a-", "\x00", "a\x00", "\u00e9", "a\u00e9", "a\xff", "*", "abcdefghijklmnopq", "_________________", "5", "a;", strings.Repeat("a", 2000), strings.Repeat("a", 1<<20), strings.Repeat("a", 256+16)} {
		if lex.Name(s) {
			t.Errorf("Name(%q): true", s)
		}
	}
	for n := range 70 {
		if got := lex.Name(strings.Repeat("a", n)); got != (1 <= n && n <= 16) {
			t.Errorf("Name of %d bytes: %v", n, got)
		}
	}
	for c := range 256 {
		s := string([]byte{byte(c)})
		starts := 'a' <= c && c <= 'z' || c == '_'
		if lex.Name(s) != starts || lex.Name(s+"a") != starts || lex.Name("a"+s) != (starts || '0' <= c && c <= '9') {
			t.Errorf("Name(%q): %v; behind, ahead of an a: %v, %v", s, lex.Name(s), lex.Name(s+"a"), lex.Name("a"+s))
		}
	}
}

func wantWritten(t *testing.T, want string, l ...api.Token) {
	t.Helper()
	if s := lex.Write(l...); s != want {
		t.Errorf("Write(%v): %q, not %q", l, s, want)
	}
}

func TestWrite(t *testing.T) { // P8.3
	wantWritten(t, "")
	wantWritten(t, "", []api.Token{}...)
	wantWritten(t, "", end(0))
	wantWritten(t, "", end(0), end(5), end(-1))
	wantWritten(t, "SELECT a1 , 'it''s'", word("SELECT", 0), name("a1", 7), sign(",", 9), text("it's", 10), end(22))
	wantWritten(t, "a", name("a", 99))
	wantWritten(t, "( 7 )", sign("(", 0), num(7, 0), sign(")", 0))
	wantWritten(t, "0", num(0, 0))
	wantWritten(t, "- "+greatest, sign("-", 5), num(api.MaxInt, 3))
	wantWritten(t, "''", text("", 0))
	wantWritten(t, "'' ''", text("", 0), text("", 0))
	wantWritten(t, "'''' '--' '\x00\n\xff'", text("'", 0), text("--", 0), text("\x00\n\xff", 0))
	wantWritten(t, "- - <= < =", sign("-", 0), sign("-", 0), sign("<=", 0), sign("<", 0), sign("=", 0))
	wantWritten(t, "a b c", end(0), name("a", 0), end(0), end(0), name("b", 0), end(0), name("c", 0), end(0))
	for _, s := range wordList() {
		wantWritten(t, s+" "+s, word(s, 0), word(s, -7))
	}
	for _, s := range signList() {
		wantWritten(t, s+" "+s, sign(s, 0), sign(s, api.MinInt))
	}
	l := slices.Repeat([]api.Token{num(5, 0)}, 100000)
	wantWritten(t, "5"+strings.Repeat(" 5", len(l)-1), l...)
}

func TestWriteOfWhatNoSourceHas(t *testing.T) { // P8.3
	long := strings.Repeat("a'", 1000)
	wantWritten(t, "'"+strings.ReplaceAll(long, "'", "''")+"'", text(long, 0))
	wantWritten(t, long, name(long, 0))
	wantWritten(t, "-5 "+"-9223372036854775808", num(-5, 0), num(api.MinInt, 0))
	wantWritten(t, " a ", name("", 0), name("a", 0), word("", 0))
	// What a kind does not name is not written.
	wantWritten(t, "5", api.Token{Kind: api.TokNum, Num: 5, Text: "a"})
	for _, kind := range []int{api.TokName, api.TokWord, api.TokSign} {
		wantWritten(t, "a", api.Token{Kind: kind, Num: 5, Text: "a", At: 7})
	}
	wantWritten(t, "'a'", api.Token{Kind: api.TokText, Num: 5, Text: "a", At: 7})
	wantWritten(t, "", api.Token{Kind: api.TokEnd, Num: 5, Text: "a", At: 7})
	for _, kind := range []int{api.MinInt, -1, 0, 7, 256 + api.TokEnd, 1<<32 + api.TokNum, api.MaxInt} {
		wantWritten(t, "x a y", name("x", 0), api.Token{Kind: kind, Num: 5, Text: "a"}, name("y", 0))
	}
}

// someToken is any token that a source may have.
func someToken(source *rand.Rand) api.Token {
	row := func(of string, least, most int) string {
		b := make([]byte, least+source.Intn(most-least+1))
		for i := range b {
			b[i] = of[source.Intn(len(of))]
		}
		return string(b)
	}
	switch source.Intn(5) {
	case 0:
		return name(row("ab_", 1, 1)+row("az09_", 0, 15), 0)
	case 1:
		return word(wordList()[source.Intn(33)], 0)
	case 2:
		return num(int(source.Uint64()>>1)>>source.Intn(64), 0)
	case 3:
		return text(row("'' -\na\x00\xff", 0, 40), 0)
	}
	return sign(signList()[source.Intn(16)], 0)
}

func TestWhatWasWrittenIsCutAgain(t *testing.T) { // P8.5
	source := rand.New(rand.NewSource(9))
	for range 20000 {
		l := make([]api.Token, source.Intn(20))
		for i := range l {
			l[i] = someToken(source)
		}
		got, f := lex.Tokens(lex.Write(l...))
		if !slices.Equal(placeless(got), placeless(l)) || f != (api.Fault{}) || got[len(got)-1].Kind != api.TokEnd {
			t.Fatalf("Tokens of %q: %v, %v, not %v", lex.Write(l...), got, f, l)
		}
	}
}

// within tells whether a text that is not empty begins in another one's memory.
func within(s, of string) bool {
	if s == "" {
		return false
	}
	at, from := uintptr(unsafe.Pointer(unsafe.StringData(s))), uintptr(unsafe.Pointer(unsafe.StringData(of)))
	return from <= at && at < from+uintptr(len(of))
}

func TestMemoryOfTokens(t *testing.T) { // P8.4
	for _, given := range someSources {
		s := strings.Clone(given)
		l, _ := lex.Tokens(s)
		for _, one := range l {
			if within(one.Text, s) {
				t.Errorf("Tokens(%q): %v is a piece of what was handed in", s, one)
			}
		}
		want := slices.Clone(l)
		second, _ := lex.Tokens(s)
		l = l[:cap(l)]
		for i := range l {
			l[i] = name("spoilt", 5)
		}
		if again, _ := lex.Tokens(s); !slices.Equal(second, want) || !slices.Equal(again, want) {
			t.Errorf("Tokens(%q) shares memory with an earlier answer: %v, %v", s, second, again)
		}
	}
}

func TestMemoryOfWrite(t *testing.T) { // P8.4
	given := strings.Clone("a text in memory of its own")
	for kind := range 8 {
		one := api.Token{Kind: kind, Text: given}
		for _, l := range [][]api.Token{{one}, {one, one}, {end(0), one, end(0)}} {
			if s := lex.Write(l...); within(s, given) {
				t.Errorf("Write(%v): %q is a piece of what was handed in", l, s)
			}
		}
	}
	l := []api.Token{name("a", 3), end(5), text("it's", 7), num(5, 9)}
	room := append(slices.Clone(l), name("mark", 1), name("mark", 2))
	want := slices.Clone(room)
	lex.Write(room[:len(l)]...)
	if !slices.Equal(room, want) {
		t.Errorf("Write changed %v to %v", want, room)
	}
}

func TestNothingIsKept(t *testing.T) { // W2
	for range 3 {
		wantFault(t, "a 'b", api.ErrEnd, 2)
		wantTokens(t, "a 'b'", name("a", 0), text("b", 2), end(5))
		wantFault(t, strings.Repeat(" ", 2001), api.ErrLong, -1)
		wantWritten(t, "a 'b'", name("a", 0), text("b", 2), end(5))
		wantTokens(t, "", end(0))
		wantWritten(t, "")
	}
}

func FuzzTokens(f *testing.F) { // P8.1, P8.2, P8.5
	for _, s := range someSources {
		f.Add(s)
	}
	f.Add("1a")
	f.Add("SELEC")
	f.Add("'" + strings.Repeat("''", 41))
	f.Add(justTooGreat)
	f.Fuzz(func(t *testing.T, s string) { holdTokens(t, s) })
}
