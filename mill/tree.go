package mill

// Tree is a text as it was read.
type Tree struct {
	items []item
}

// An item is an input, an output or an equation.
type item interface {
	line() string
}

type input struct {
	name     string
	flowType int
	every    int64
}

type output struct {
	names []string
}

type equation struct {
	name     string
	flowType int
	body     expr
}

// An expr knows how tightly it binds: by that the reader's grammar and the
// printer's brackets stay one and the same thing.
type expr interface {
	tightness() int
}

// How tightly expressions bind, rising.
const (
	bindsIf = iota
	bindsOr
	bindsAnd
	bindsNot
	bindsRelation
	bindsSum
	bindsTerm
	bindsMinus
	bindsAtom
)

// atom is part of every expression that no operator around it can tear apart.
type atom struct{}

func (atom) tightness() int { return bindsAtom }

type intLiteral struct {
	atom
	value int64
}

type boolLiteral struct {
	atom
	value bool
}

type flowName struct {
	atom
	text string
}

// prefixed is 'not' or '-' ahead of an operand.
type prefixed struct {
	sign    string
	operand expr
}

func (x prefixed) tightness() int {
	if x.sign == "not" {
		return bindsNot
	}
	return bindsMinus
}

// paired is an operator of two sides with its operands.
type paired struct {
	sign        string
	left, right expr
}

func (x paired) tightness() int { return tightnessOf(x.sign) }

type choice struct {
	test, yes, no expr
}

func (choice) tightness() int { return bindsIf }

// delayed is 'fby'; its first value is a constant (so is that of held): a
// literal, or '-' ahead of one, as it stands in the text.
type delayed struct {
	atom
	first, operand expr
}

// thinned is 'under'.
type thinned struct {
	atom
	operand expr
	factor  int64
}

// held is 'hold'.
type held struct {
	atom
	first, operand expr
	factor         int64
}

// extreme is 'min' or 'max'.
type extreme struct {
	atom
	word        string
	left, right expr
}
