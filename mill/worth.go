package mill

// A worth is what an expression does, once compiled: its value at an instant
// of its period, and whether all that it needs for that is there. It keeps no
// values itself: whoever asks says by a source where those of flows come from.
type worth func(from source, instant int64) (int64, bool)

// A source tells a flow's value at an instant, and whether it is there.
type source func(flow int, instant int64) (int64, bool)

// worths are one a flow; an input has none.
func (c *compiler) worths() []worth {
	all := make([]worth, len(c.flows))
	for _, q := range c.equations {
		all[q.flow] = c.worthOf(q.body)
	}
	return all
}

func (c *compiler) worthOf(e expr) worth {
	switch x := e.(type) {
	case intLiteral:
		return always(x.value)
	case boolLiteral:
		return always(asNumber(x.value))
	case flowName:
		return ofFlow(c.numbers[x.text])
	case prefixed:
		return ofPrefix(x.sign, c.worthOf(x.operand))
	case paired:
		return ofTwo(reckoning(x.sign), c.worthOf(x.left), c.worthOf(x.right))
	case extreme:
		return ofTwo(reckoning(x.word), c.worthOf(x.left), c.worthOf(x.right))
	case choice:
		return ofChoice(c.worthOf(x.test), c.worthOf(x.yes), c.worthOf(x.no))
	case delayed:
		return later(c.worthOf(x.first), c.worthOf(x.operand))
	case thinned:
		return rarer(c.worthOf(x.operand), x.factor)
	case held:
		return oftener(c.worthOf(x.first), c.worthOf(x.operand), x.factor)
	}
	return nil
}

func always(value int64) worth {
	return func(source, int64) (int64, bool) { return value, true }
}

func ofFlow(flow int) worth {
	return func(from source, instant int64) (int64, bool) { return from(flow, instant) }
}

// ofPrefix has no reckonings of its own: as bools count as 0 and 1, both signs
// take their operand away from something.
func ofPrefix(sign string, operand worth) worth {
	if sign == "not" {
		return ofTwo(reckoning("-"), always(1), operand)
	}
	return ofTwo(reckoning("-"), always(0), operand)
}

func ofTwo(reckon func(a, b int64) int64, left, right worth) worth {
	sides := both(left, right)
	return func(from source, instant int64) (int64, bool) {
		a, b, there := sides(from, instant)
		if !there {
			return 0, false
		}
		return reckon(a, b), true
	}
}

// ofChoice works both sides out: the one that is not taken is needed too.
func ofChoice(test, yes, no worth) worth {
	sides := both(yes, no)
	return func(from source, instant int64) (int64, bool) {
		holds, there := test(from, instant)
		if !there {
			return 0, false
		}
		a, b, there := sides(from, instant)
		if holds == 0 {
			return b, there
		}
		return a, there
	}
}

// both asks for the right one only if the left one is there: a value that is
// not there is looked for once, however many ways lead to it.
func both(left, right worth) func(source, int64) (int64, int64, bool) {
	return func(from source, instant int64) (int64, int64, bool) {
		a, there := left(from, instant)
		if !there {
			return 0, 0, false
		}
		b, there := right(from, instant)
		return a, b, there
	}
}

func later(first, operand worth) worth {
	return func(from source, instant int64) (int64, bool) {
		if instant == 0 {
			return first(from, instant)
		}
		return operand(from, instant-1)
	}
}

func rarer(operand worth, factor int64) worth {
	return func(from source, instant int64) (int64, bool) {
		return operand(from, factor*instant)
	}
}

func oftener(first, operand worth, factor int64) worth {
	return func(from source, instant int64) (int64, bool) {
		if instant < factor {
			return first(from, instant)
		}
		return operand(from, instant/factor-1)
	}
}
