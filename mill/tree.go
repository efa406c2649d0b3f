package mill

// Tree is a text as it was read.
type Tree struct {
	items []item
}

// An item is an input, an output or an equation.
type item interface {
	line() string
}

type input struct {
	name     flowName
	flowType int
	every    int64
}

type output struct {
	names []flowName
}

type equation struct {
	name     flowName
	flowType int
	body     expr
}

// An expr knows how tightly it binds: by that the reader's grammar and the
// printer's brackets stay one and the same thing. Its place is that of the
// token by which its faults are told: of an operator that operator.
type expr interface {
	tightness() int
	place() int
}

// How tightly expressions bind, rising.
const (
	bindsIf = iota
	bindsOr
	bindsAnd
	bindsNot
	bindsRelation
	bindsSum
	bindsTerm
	bindsMinus
	bindsAtom
)

// placed is part of every expression.
type placed struct {
	at int
}

func (p placed) place() int { return p.at }

// atom is part of every expression that no operator around it can tear apart.
type atom struct {
	placed
}

func (atom) tightness() int { return bindsAtom }

type intLiteral struct {
	atom
	value int64
}

type boolLiteral struct {
	atom
	value bool
}

// flowName is a NAME wherever it stands, in an expression or not.
type flowName struct {
	atom
	text string
}

// prefixed is 'not' or '-' ahead of an operand.
type prefixed struct {
	placed
	sign    string
	operand expr
}

func (x prefixed) tightness() int {
	if x.sign == "not" {
		return bindsNot
	}
	return bindsMinus
}

// paired is an operator of two sides with its operands.
type paired struct {
	placed
	sign        string
	left, right expr
}

func (x paired) tightness() int { return operatorOf(x.sign).tightness }

type choice struct {
	placed
	test, yes, no expr
}

func (choice) tightness() int { return bindsIf }

// delayed is 'fby'; its first value is a constant (so is that of held): a
// literal, or '-' ahead of one, as it stands in the text.
type delayed struct {
	atom
	first, operand expr
}

// thinned is 'under'.
type thinned struct {
	atom
	operand expr
	factor  int64
}

// held is 'hold'.
type held struct {
	atom
	first, operand expr
	factor         int64
}

// extreme is 'min' or 'max'.
type extreme struct {
	atom
	word        string
	left, right expr
}

// operands of an expression from the left to the right, a constant among them.
func operands(e expr) []expr {
	switch x := e.(type) {
	case prefixed:
		return []expr{x.operand}
	case paired:
		return []expr{x.left, x.right}
	case choice:
		return []expr{x.test, x.yes, x.no}
	case delayed:
		return []expr{x.first, x.operand}
	case thinned:
		return []expr{x.operand}
	case held:
		return []expr{x.first, x.operand}
	case extreme:
		return []expr{x.left, x.right}
	}
	return nil
}
