package mill

// words are names that the grammar keeps for itself.
var words = [...]string{
	"input", "output", "every", "int", "bool",
	"if", "then", "else", "or", "xor", "and", "not",
	"true", "false", "fby", "under", "hold", "min", "max",
}

// signs of two bytes stand ahead of those of one: a token is as long as it can be.
var signs = [...]string{
	"<=", ">=", "==", "!=",
	":", ";", "=", "(", ")", ",", "+", "-", "*", "/", "%", "<", ">",
}

// typeWords are in the order of the numbers by which Flow tells a type.
var typeWords = [...]string{"int", "bool"}

// operators of two sides.
var operators = [...]struct {
	sign      string
	tightness int
}{
	{"or", bindsOr}, {"xor", bindsOr},
	{"and", bindsAnd},
	{"<", bindsRelation}, {"<=", bindsRelation}, {">", bindsRelation},
	{">=", bindsRelation}, {"==", bindsRelation}, {"!=", bindsRelation},
	{"+", bindsSum}, {"-", bindsSum},
	{"*", bindsTerm}, {"/", bindsTerm}, {"%", bindsTerm},
}

// tightnessOf an operator of two sides; -1 of what is none.
func tightnessOf(sign string) int {
	for _, o := range operators {
		if o.sign == sign {
			return o.tightness
		}
	}
	return -1
}
