package mill

import (
	"strconv"
	"strings"
)

// Print: P3.
func Print(t *Tree) string {
	if t == nil {
		return ""
	}
	var out strings.Builder
	for _, i := range t.items {
		out.WriteString(i.line())
		out.WriteString(";\n")
	}
	return out.String()
}

func (i input) line() string {
	return "input " + i.name.text + " : " + typeWords[i.flowType] + " every " + strconv.FormatInt(i.every, 10)
}

func (i output) line() string {
	texts := make([]string, len(i.names))
	for k, name := range i.names {
		texts[k] = name.text
	}
	return "output " + strings.Join(texts, ", ")
}

func (i equation) line() string {
	return i.name.text + " : " + typeWords[i.flowType] + " = " + exprText(i.body)
}

func exprText(e expr) string {
	switch x := e.(type) {
	case intLiteral:
		return strconv.FormatInt(x.value, 10)
	case boolLiteral:
		return strconv.FormatBool(x.value)
	case flowName:
		return x.text
	case prefixed:
		return prefixedText(x)
	case paired:
		return pairedText(x)
	case choice:
		return "if " + exprText(x.test) + " then " + exprText(x.yes) + " else " + exprText(x.no)
	case delayed:
		return callText("fby", exprText(x.first), exprText(x.operand))
	case thinned:
		return callText("under", exprText(x.operand), strconv.FormatInt(x.factor, 10))
	case held:
		return callText("hold", exprText(x.first), exprText(x.operand), strconv.FormatInt(x.factor, 10))
	case extreme:
		return callText(x.word, exprText(x.left), exprText(x.right))
	}
	return ""
}

func callText(word string, parts ...string) string {
	return word + "(" + strings.Join(parts, ", ") + ")"
}

func prefixedText(x prefixed) string {
	operand := operandText(x.operand, x.tightness())
	if x.sign == "not" {
		return "not " + operand
	}
	return x.sign + operand
}

// pairedText: operators gather to the left, so that only a left operand may
// bind just as tightly; relations do not gather at all.
func pairedText(x paired) string {
	own := x.tightness()
	left := own
	if own == bindsRelation {
		left = own + 1
	}
	return operandText(x.left, left) + " " + x.sign + " " + operandText(x.right, own+1)
}

// operandText has brackets around what binds less tightly than it must.
func operandText(e expr, least int) string {
	if e.tightness() < least {
		return "(" + exprText(e) + ")"
	}
	return exprText(e)
}
