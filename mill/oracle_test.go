package mill_test

import (
	"fmt"
	"math/rand"
	"reflect"
	"regexp"
	"strconv"
	"strings"
	"testing"

	"ratemill/mill"
)

// A second reader, that shares nothing with the program's: the grammar as
// rules, gone through by sets of what may go on (Earley's way). A token with
// which no rule goes on is one with which no program does.

var rules = map[string][]string{
	"item":  {"input NAME : type every EVERY ;", "output names ;", "NAME : type = expr ;"},
	"names": {"NAME", "names , NAME"},
	"type":  {"int", "bool"},
	"expr":  {"if expr then expr else expr", "disj"},
	"disj":  {"conj", "disj or conj", "disj xor conj"},
	"conj":  {"neg", "conj and neg"},
	"neg":   {"not neg", "rel"},
	"rel":   {"sum", "sum < sum", "sum <= sum", "sum > sum", "sum >= sum", "sum == sum", "sum != sum"},
	"sum":   {"term", "sum + term", "sum - term"},
	"term":  {"fact", "term * fact", "term / fact", "term % fact"},
	"fact":  {"- fact", "atom"},
	"atom": {"NUMBER", "true", "false", "NAME", "( expr )", "fby ( const , expr )", "under ( expr , FACTOR )",
		"hold ( const , expr , FACTOR )", "min ( expr , expr )", "max ( expr , expr )"},
	"const": {"- NUMBER", "NUMBER", "true", "false"},
}

var (
	blank   = regexp.MustCompile(`^([ \t\n]|#[^\n]*)+`)
	lexeme  = regexp.MustCompile(`^([a-z][a-z0-9_]*|[0-9]+|[<>=!]=|[:;=(),+*/%<>-])`)
	tooLong = regexp.MustCompile(`^[a-z0-9_]{13,}$`)
	word    = regexp.MustCompile(`^(input|output|every|int|bool|if|then|else|or|xor|and|not|true|false|fby|under|hold|min|max)$`)
)

// fits: may the token stand for that symbol of a rule?
func fits(symbol, tok string) bool {
	isNumber := tok[0] >= '0' && tok[0] <= '9'
	n, _ := strconv.Atoi(tok)
	switch symbol {
	case "NAME":
		return tok[0] >= 'a' && tok[0] <= 'z' && !word.MatchString(tok)
	case "NUMBER":
		return isNumber
	case "EVERY":
		return isNumber && n >= 1 && n <= 1000000
	case "FACTOR":
		return isNumber && n >= 2 && n <= 1000
	}
	return symbol == tok
}

// state: a rule's right side, how far it is seen, and where it began.
type state struct {
	left, right string
	dot, from   int
}

func (s state) next() string {
	f := strings.Fields(s.right)
	if s.dot < len(f) {
		return f[s.dot]
	}
	return ""
}

type chart struct {
	sets [][]state
}

func newChart() *chart {
	c := &chart{sets: [][]state{nil}}
	c.begin("item", 0)
	c.fill(0)
	return c
}

func (c *chart) add(at int, s state) {
	for _, o := range c.sets[at] {
		if o == s {
			return
		}
	}
	c.sets[at] = append(c.sets[at], s)
}

func (c *chart) begin(symbol string, at int) {
	for _, r := range rules[symbol] {
		c.add(at, state{symbol, r, 0, at})
	}
}

func (c *chart) fill(at int) {
	for i := 0; i < len(c.sets[at]); i++ {
		s := c.sets[at][i]
		if s.next() != "" {
			c.begin(s.next(), at)
			continue
		}
		for _, o := range c.sets[s.from] {
			if o.next() == s.left {
				o.dot++
				c.add(at, o)
			}
		}
	}
}

// goOn: does some item go on with this token?
func (c *chart) goOn(tok string) bool {
	last := len(c.sets) - 1
	c.sets = append(c.sets, nil)
	for _, s := range c.sets[last] {
		if s.next() != "" && rules[s.next()] == nil && fits(s.next(), tok) {
			s.dot++
			c.add(last+1, s)
		}
	}
	c.fill(last + 1)
	return len(c.sets[last+1]) > 0
}

// asked: what P2 asks for this text, of 4000 bytes at most.
func asked(text string) (int, error) {
	at, tokens, items := 0, 0, 0
	c := newChart()
	for {
		at += len(blank.FindString(text[at:]))
		if at == len(text) {
			break
		}
		tok := lexeme.FindString(text[at:])
		if tok == "" || tooLong.MatchString(tok) && tok[0] >= 'a' || badNumber(tok) {
			return at, mill.ErrToken
		}
		tokens++
		switch {
		case tokens > 600:
			return at, mill.ErrLong
		case items == 60:
			return at, mill.ErrMany
		case !c.goOn(tok):
			return at, mill.ErrSyntax
		}
		if tok == ";" {
			items++
			c = newChart()
		}
		at += len(tok)
	}
	if len(c.sets) > 1 {
		return len(text), mill.ErrSyntax
	}
	return 0, nil
}

func badNumber(tok string) bool {
	const greatest = "9223372036854775807"
	if tok[0] < '0' || tok[0] > '9' {
		return false
	}
	return tok[0] == '0' && tok != "0" || len(tok) > len(greatest) || len(tok) == len(greatest) && tok > greatest
}

// spell makes tokens of a symbol by the rules, small ones when it is deep.
func spell(r *rand.Rand, symbol string, deep int) []string {
	switch symbol {
	case "NAME":
		return []string{pickOne(r, "a", "b", "x1", "y_", "abcdefghijkl", "iff", "o")}
	case "NUMBER":
		return []string{pickOne(r, "0", "1", "2", "7", "1000", "9223372036854775807")}
	case "EVERY":
		return []string{pickOne(r, "1", "2", "1000000")}
	case "FACTOR":
		return []string{pickOne(r, "2", "3", "1000")}
	}
	sides := rules[symbol]
	if sides == nil {
		return []string{symbol}
	}
	if deep > 25 && symbol == "atom" {
		sides = sides[:4]
	}
	right := sides[r.Intn(len(sides))]
	if deep > 25 || r.Intn(3) > 0 { // else nearly all would be long
		right = shortest(sides, right)
	}
	var out []string
	for _, s := range strings.Fields(right) {
		out = append(out, spell(r, s, deep+1)...)
	}
	return out
}

// shortest: of a symbol of operators the side that only leads on.
func shortest(sides []string, right string) string {
	for _, s := range sides {
		if rules[s] != nil {
			return s
		}
	}
	return right
}

func pickOne(r *rand.Rand, l ...string) string { return l[r.Intn(len(l))] }

// spoil: now and then a token is lost, doubled, or another one.
func spoil(r *rand.Rand, toks []string) []string {
	other := strings.Fields("input output every int bool if then else or xor and not true false fby under hold min max : ; = ( ) , + - * / % < <= > >= == != a 0 1 2 1001 1000001 01 & ! A abcdefghijklm 9223372036854775808")
	i := r.Intn(len(toks))
	switch r.Intn(4) {
	case 0:
		return append(append([]string{}, toks[:i]...), toks[i+1:]...)
	case 1:
		return append(append([]string{}, toks[:i+1]...), toks[i:]...)
	case 2:
		return append([]string{}, toks[:i]...)
	}
	out := append([]string{}, toks...)
	out[i] = other[r.Intn(len(other))]
	return out
}

func join(r *rand.Rand, toks []string) string {
	var b strings.Builder
	for _, s := range toks {
		b.WriteString(s)
		b.WriteString(pickOne(r, "", "", " ", " ", " ", "\n", "\t ", "#;\n"))
	}
	return b.String()
}

func TestP2AsTheGrammarHasIt(t *testing.T) {
	r := rand.New(rand.NewSource(1))
	seen := map[error]int{}
	for range 6000 {
		var toks []string
		for range 1 + r.Intn(3) {
			toks = append(toks, spell(r, "item", 0)...)
		}
		for range r.Intn(3) {
			if len(toks) > 0 {
				toks = spoil(r, toks)
			}
		}
		text := join(r, toks)
		if len(text) > 4000 {
			continue
		}
		at, err := asked(text)
		seen[err]++
		check(t, wrong{text, err, at})
	}
	if seen[nil] < 500 || seen[mill.ErrSyntax] < 500 || seen[mill.ErrToken] < 200 {
		t.Errorf("the texts are of too few kinds: %v", seen)
	}
}

// bracketed spells an expression with brackets around each part.
func bracketed(r *rand.Rand, deep int) string {
	part := func() string {
		s := bracketed(r, deep-1)
		return pickOne(r, "("+s+")", "(("+s+"))", "( "+s+" )")
	}
	if deep == 0 {
		return pickOne(r, "1", "a", "true", "false", "b_2")
	}
	switch r.Intn(12) {
	case 0:
		return "not " + part()
	case 1:
		return "-" + part()
	case 2:
		return "if " + part() + " then " + part() + " else " + part()
	case 3:
		return "fby(" + pickOne(r, "-0", "- 3", "true", "5") + "," + part() + ")"
	case 4:
		return "under(" + part() + ",2)"
	case 5:
		return "hold(" + pickOne(r, "-1", "false", "0") + "," + part() + ", 1000)"
	case 6:
		return pickOne(r, "min", "max") + "(" + part() + "," + part() + ")"
	}
	return part() + pickOne(r, "or", "xor", "and", "<", "<=", ">", ">=", "==", "!=", "+", "-", "*", "/", "%", "+", "-") + part()
}

// spaced lays blanks anew between the tokens of an expression, as P3 tells.
func spaced(text string) string {
	var out, before string
	for len(text) > 0 {
		text = strings.TrimLeft(text, " ")
		tok := lexeme.FindString(text)
		if tok == "" {
			return "no token: " + text
		}
		text = text[len(tok):]
		isOperand := before != "" && (before == ")" || before == "true" || before == "false" || fits("NAME", before) || fits("NUMBER", before))
		switch {
		case tok == ",", tok == "if", tok == "not":
			out += tok + " "
		case tok == "then", tok == "else", tok == "or", tok == "xor", tok == "and":
			out += " " + tok + " "
		case strings.Contains("+ - * / % < <= > >= == !=", tok) && isOperand:
			out += " " + tok + " "
		default:
			out += tok
		}
		before = tok
	}
	return out
}

// withoutPair answers the text without the bracket at i and its other one.
func withoutPair(text string, i int) string {
	depth := 0
	for k := i; k < len(text); k++ {
		switch text[k] {
		case '(':
			depth++
		case ')':
			depth--
		}
		if depth == 0 {
			return text[:i] + " " + text[i+1:k] + " " + text[k+1:]
		}
	}
	return text
}

// shape spells a tree out, with all that it holds but the places of its tokens.
func shape(v reflect.Value) string {
	switch v.Kind() {
	case reflect.Pointer, reflect.Interface:
		return shape(v.Elem())
	case reflect.Slice:
		out := "["
		for i := range v.Len() {
			out += shape(v.Index(i)) + " "
		}
		return out + "]"
	case reflect.Struct:
		out := v.Type().Name() + "{"
		for i := range v.NumField() {
			if v.Type().Field(i).Name != "at" {
				out += shape(v.Field(i)) + " "
			}
		}
		return out + "}"
	case reflect.String:
		return strconv.Quote(v.String())
	}
	return fmt.Sprint(v)
}

func sameTree(a, b *mill.Tree) bool {
	return shape(reflect.ValueOf(a)) == shape(reflect.ValueOf(b))
}

func TestP3BracketsOnlyWhereTheyMustStand(t *testing.T) {
	r := rand.New(rand.NewSource(2))
	for range 5000 {
		text := "q:int=" + bracketed(r, 1+r.Intn(4)) + ";"
		tree, err := mill.Parse(text)
		if err != nil {
			if len(text) > 1000 { // of too many tokens
				continue
			}
			t.Fatalf("Parse(%q): %v", text, err)
		}
		out := mill.Print(tree)
		again, err := mill.Parse(out)
		if err != nil || !sameTree(again, tree) {
			t.Fatalf("%q is printed as %q: another program, %v", text, out, err)
		}
		body := strings.TrimSuffix(strings.TrimPrefix(out, "q : int = "), ";\n")
		if body != spaced(body) {
			t.Fatalf("%q: blanks, want %q", body, spaced(body))
		}
		for i := range body {
			isCall := i > 0 && body[i-1] >= 'a' && body[i-1] <= 'z'
			if body[i] != '(' || isCall {
				continue
			}
			fewer, err := mill.Parse("q:int=" + withoutPair(body, i) + ";")
			if err == nil && sameTree(fewer, tree) {
				t.Fatalf("%q: the brackets at %d need not stand", body, i)
			}
		}
	}
}
