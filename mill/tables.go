package mill

// words are names that the grammar keeps for itself.
var words = [...]string{
	"input", "output", "every", "int", "bool",
	"if", "then", "else", "or", "xor", "and", "not",
	"true", "false", "fby", "under", "hold", "min", "max",
}

// signs of two bytes stand ahead of those of one: a token is as long as it can be.
var signs = [...]string{
	"<=", ">=", "==", "!=",
	":", ";", "=", "(", ")", ",", "+", "-", "*", "/", "%", "<", ">",
}

// typeWords are in the order of the numbers by which Flow tells a type.
var typeWords = [...]string{"int", "bool"}

// The types, as Flow tells them; anyType where two operands must only be of
// one type.
const (
	intType = iota
	boolType
	anyType
)

// An operator of two sides: how tightly it binds, the type of both operands
// and its own.
type operator struct {
	sign         string
	tightness    int
	wants, gives int
}

var operators = [...]operator{
	{"or", bindsOr, boolType, boolType}, {"xor", bindsOr, boolType, boolType},
	{"and", bindsAnd, boolType, boolType},
	{"<", bindsRelation, intType, boolType}, {"<=", bindsRelation, intType, boolType},
	{">", bindsRelation, intType, boolType}, {">=", bindsRelation, intType, boolType},
	{"==", bindsRelation, anyType, boolType}, {"!=", bindsRelation, anyType, boolType},
	{"+", bindsSum, intType, intType}, {"-", bindsSum, intType, intType},
	{"*", bindsTerm, intType, intType}, {"/", bindsTerm, intType, intType},
	{"%", bindsTerm, intType, intType},
}

// operatorOf a sign; of a sign that is none one that binds as nothing does.
func operatorOf(sign string) operator {
	for _, o := range operators {
		if o.sign == sign {
			return o
		}
	}
	return operator{tightness: -1}
}
