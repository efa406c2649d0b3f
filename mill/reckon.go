package mill

// reckoning is what an operator of two sides, min or max does with two values;
// bools count as 0 and 1.
func reckoning(sign string) func(a, b int64) int64 {
	switch sign {
	case "+":
		return func(a, b int64) int64 { return a + b }
	case "-":
		return func(a, b int64) int64 { return a - b }
	case "*":
		return func(a, b int64) int64 { return a * b }
	case "/":
		return quotient
	case "%":
		return remainder
	case "min":
		return func(a, b int64) int64 { return min(a, b) }
	case "max":
		return func(a, b int64) int64 { return max(a, b) }
	case "and":
		return func(a, b int64) int64 { return a & b }
	case "or":
		return func(a, b int64) int64 { return a | b }
	case "xor":
		return func(a, b int64) int64 { return a ^ b }
	}
	return comparison(sign)
}

func comparison(sign string) func(a, b int64) int64 {
	switch sign {
	case "<":
		return func(a, b int64) int64 { return asNumber(a < b) }
	case "<=":
		return func(a, b int64) int64 { return asNumber(a <= b) }
	case ">":
		return func(a, b int64) int64 { return asNumber(a > b) }
	case ">=":
		return func(a, b int64) int64 { return asNumber(a >= b) }
	case "==":
		return func(a, b int64) int64 { return asNumber(a == b) }
	}
	return func(a, b int64) int64 { return asNumber(a != b) }
}

func quotient(a, b int64) int64 {
	if b == 0 {
		return 0
	}
	return a / b
}

func remainder(a, b int64) int64 {
	if b == 0 {
		return 0
	}
	return a % b
}

func asNumber(holds bool) int64 {
	if holds {
		return 1
	}
	return 0
}
