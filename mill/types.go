package mill

func (c *compiler) checkTypes() *Diag {
	for _, q := range c.equations {
		found, fault := c.typeOf(q.body)
		if fault != nil {
			return fault
		}
		if found != q.flowType {
			return &Diag{At: q.name.at, Err: ErrType}
		}
	}
	return nil
}

// typeOf asks all operands ahead of the operator: its fault comes behind theirs.
func (c *compiler) typeOf(e expr) (int, *Diag) {
	parts := operands(e)
	types := make([]int, len(parts))
	for i, part := range parts {
		found, fault := c.typeOf(part)
		if fault != nil {
			return 0, fault
		}
		types[i] = found
	}
	found, fits := c.typeBy(e, types)
	if !fits {
		return 0, &Diag{At: e.place(), Err: ErrType}
	}
	return found, nil
}

// typeBy is the type of an expression by those of its operands, and whether
// they fit.
func (c *compiler) typeBy(e expr, types []int) (int, bool) {
	switch x := e.(type) {
	case intLiteral:
		return intType, true
	case boolLiteral:
		return boolType, true
	case flowName:
		return c.flowOf(x).Type, true
	case prefixed:
		return types[0], types[0] == prefixType(x.sign)
	case paired:
		o := operatorOf(x.sign)
		return o.gives, types[0] == types[1] && (o.wants == anyType || o.wants == types[0])
	case choice:
		return types[1], types[0] == boolType && types[1] == types[2]
	case delayed, held:
		return types[1], types[0] == types[1]
	case extreme:
		return intType, types[0] == intType && types[1] == intType
	case thinned:
		return types[0], true
	}
	return 0, false
}

func prefixType(sign string) int {
	if sign == "not" {
		return boolType
	}
	return intType
}
