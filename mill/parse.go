package mill

import (
	"math"
	"strings"
)

const (
	maxBytes  = 4000
	maxItems  = 60
	maxPeriod = 1000000
	minFactor = 2
	maxFactor = 1000
)

// Parse: P2.
func Parse(text string) (*Tree, error) {
	if len(text) > maxBytes {
		return nil, ErrLong
	}
	items, fault := readItems(text)
	if fault != nil {
		return nil, fault
	}
	return &Tree{items: items}, nil
}

// readItems is the reader's edge: what is thrown within ends here.
func readItems(text string) (items []item, fault *Diag) {
	defer func() {
		switch thrown := recover().(type) {
		case nil:
		case *Diag:
			items, fault = nil, thrown
		default:
			panic(thrown)
		}
	}()
	r := &reader{text: text}
	r.advance()
	for r.token.kind != endToken {
		if len(items) == maxItems {
			panic(&Diag{At: r.token.at, Err: ErrMany})
		}
		items = append(items, r.item())
	}
	return items, nil
}

// refused is the fault of the token that is seen now, or of the text's end.
func (r *reader) refused() *Diag { return &Diag{At: r.token.at, Err: ErrSyntax} }

// here and atomHere are the place of the token that is seen now.
func (r *reader) here() placed { return placed{at: r.token.at} }

func (r *reader) atomHere() atom { return atom{placed: r.here()} }

func (r *reader) sees(text string) bool {
	return r.token.kind == fixedToken && r.token.text == text
}

// takes goes on only if it sees that word or sign.
func (r *reader) takes(text string) bool {
	if !r.sees(text) {
		return false
	}
	r.advance()
	return true
}

func (r *reader) want(text string) {
	if !r.takes(text) {
		panic(r.refused())
	}
}

// name copies what it takes: the tree must not keep the caller's text.
func (r *reader) name() flowName {
	if r.token.kind != nameToken {
		panic(r.refused())
	}
	name := flowName{atom: r.atomHere(), text: strings.Clone(r.token.text)}
	r.advance()
	return name
}

// number looks at the size ahead of going on: a fault behind a number that
// cannot stand here is not the first one.
func (r *reader) number(least, greatest int64) int64 {
	value := r.token.value
	if r.token.kind != numberToken || value < least || value > greatest {
		panic(r.refused())
	}
	r.advance()
	return value
}

func (r *reader) flowType() int {
	for i, w := range typeWords {
		if r.takes(w) {
			return i
		}
	}
	panic(r.refused())
}

func (r *reader) item() item {
	switch {
	case r.takes("input"):
		return r.input()
	case r.takes("output"):
		return r.output()
	}
	return r.equation()
}

func (r *reader) input() item {
	name := r.name()
	r.want(":")
	flowType := r.flowType()
	r.want("every")
	every := r.number(1, maxPeriod)
	r.want(";")
	return input{name: name, flowType: flowType, every: every}
}

func (r *reader) output() item {
	names := []flowName{r.name()}
	for r.takes(",") {
		names = append(names, r.name())
	}
	r.want(";")
	return output{names: names}
}

func (r *reader) equation() item {
	name := r.name()
	r.want(":")
	flowType := r.flowType()
	r.want("=")
	body := r.expression()
	r.want(";")
	return equation{name: name, flowType: flowType, body: body}
}

func (r *reader) expression() expr {
	here := r.here()
	if !r.takes("if") {
		return r.operand(bindsOr)
	}
	test := r.expression()
	r.want("then")
	yes := r.expression()
	r.want("else")
	return choice{placed: here, test: test, yes: yes, no: r.expression()}
}

// operand reads what binds at least that tightly.
func (r *reader) operand(tightness int) expr {
	here := r.here()
	switch tightness {
	case bindsNot:
		if r.takes("not") {
			return prefixed{placed: here, sign: "not", operand: r.operand(bindsNot)}
		}
	case bindsMinus:
		if r.takes("-") {
			return prefixed{placed: here, sign: "-", operand: r.operand(bindsMinus)}
		}
	case bindsAtom:
		return r.atom()
	}
	left := r.operand(tightness + 1)
	for r.seesOperator(tightness) {
		here, sign := r.here(), r.token.text
		r.advance()
		left = paired{placed: here, sign: sign, left: left, right: r.operand(tightness + 1)}
		if tightness == bindsRelation {
			break
		}
	}
	return left
}

func (r *reader) seesOperator(tightness int) bool {
	return r.token.kind == fixedToken && operatorOf(r.token.text).tightness == tightness
}

func (r *reader) atom() expr {
	here := r.atomHere()
	switch {
	case r.token.kind == nameToken:
		return r.name()
	case r.takes("("):
		inner := r.expression()
		r.want(")")
		return inner
	case r.takes("fby"):
		return r.delayed(here)
	case r.takes("under"):
		return r.thinned(here)
	case r.takes("hold"):
		return r.held(here)
	case r.takes("min"):
		return r.extreme(here, "min")
	case r.takes("max"):
		return r.extreme(here, "max")
	}
	return r.literal()
}

func (r *reader) literal() expr {
	here := r.atomHere()
	switch {
	case r.takes("true"):
		return boolLiteral{atom: here, value: true}
	case r.takes("false"):
		return boolLiteral{atom: here, value: false}
	}
	return r.digits()
}

func (r *reader) digits() expr {
	here := r.atomHere()
	return intLiteral{atom: here, value: r.number(0, math.MaxInt64)}
}

func (r *reader) constant() expr {
	here := r.here()
	if r.takes("-") {
		return prefixed{placed: here, sign: "-", operand: r.digits()}
	}
	return r.literal()
}

func (r *reader) delayed(here atom) expr {
	r.want("(")
	first := r.constant()
	r.want(",")
	operand := r.expression()
	r.want(")")
	return delayed{atom: here, first: first, operand: operand}
}

func (r *reader) thinned(here atom) expr {
	r.want("(")
	operand := r.expression()
	r.want(",")
	factor := r.number(minFactor, maxFactor)
	r.want(")")
	return thinned{atom: here, operand: operand, factor: factor}
}

func (r *reader) held(here atom) expr {
	r.want("(")
	first := r.constant()
	r.want(",")
	operand := r.expression()
	r.want(",")
	factor := r.number(minFactor, maxFactor)
	r.want(")")
	return held{atom: here, first: first, operand: operand, factor: factor}
}

func (r *reader) extreme(here atom, word string) expr {
	r.want("(")
	left := r.expression()
	r.want(",")
	right := r.expression()
	r.want(")")
	return extreme{atom: here, word: word, left: left, right: right}
}
