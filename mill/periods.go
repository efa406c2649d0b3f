package mill

// open is the period of what has none of its own, or none yet.
const open = 0

// findPeriods goes in rounds: what a later equation finds out may be what an
// earlier one waits for.
func (c *compiler) findPeriods() *Diag {
	for c.findPeriodsOnce() {
	}
	for _, q := range c.equations {
		if c.flows[q.flow].Period == open {
			return &Diag{At: q.name.at, Err: ErrFree}
		}
	}
	return nil
}

// findPeriodsOnce tells whether it has found a new one.
func (c *compiler) findPeriodsOnce() bool {
	more := false
	for _, q := range c.equations {
		flow := &c.flows[q.flow]
		if flow.Period != open {
			continue
		}
		flow.Period = c.periodOf(q.body)
		more = more || flow.Period != open
	}
	return more
}

// periodOf an expression, as far as the flows' periods are known; whether its
// parts fit together is not asked here.
func (c *compiler) periodOf(e expr) int {
	switch x := e.(type) {
	case flowName:
		return c.flowOf(x).Period
	case thinned:
		return slower(c.periodOf(x.operand), x.factor)
	case held:
		return faster(c.periodOf(x.operand), x.factor)
	}
	for _, part := range operands(e) {
		if period := c.periodOf(part); period != open {
			return period
		}
	}
	return open
}

func slower(period int, factor int64) int {
	if product := period * int(factor); product <= maxPeriod {
		return product
	}
	return open
}

func faster(period int, factor int64) int {
	if period%int(factor) == 0 {
		return period / int(factor)
	}
	return open
}

func (c *compiler) checkPeriods() *Diag {
	for _, q := range c.equations {
		if fault := c.periodFault(q.body); fault != nil {
			return fault
		}
		if c.periodOf(q.body) != c.flows[q.flow].Period {
			return &Diag{At: q.name.at, Err: ErrPeriod}
		}
	}
	return nil
}

// periodFault asks all operands ahead of the operator: its fault comes behind
// theirs.
func (c *compiler) periodFault(e expr) *Diag {
	first := open
	differ := false
	for _, part := range operands(e) {
		if fault := c.periodFault(part); fault != nil {
			return fault
		}
		period := c.periodOf(part)
		if first == open {
			first = period
		}
		differ = differ || period != open && period != first
	}
	if differ || first != open && c.periodOf(e) == open {
		return &Diag{At: e.place(), Err: ErrPeriod}
	}
	return nil
}

// checkCommonPeriod stops with the first multiple that is too great: a common
// one of more flows is no smaller, and could outgrow an int.
func (c *compiler) checkCommonPeriod() *Diag {
	common := 1
	for _, flow := range c.flows {
		common = common / commonDivisor(common, flow.Period) * flow.Period
		if common > maxPeriod {
			return &Diag{At: 0, Err: ErrPeriod}
		}
	}
	return nil
}

func commonDivisor(a, b int) int {
	for b != 0 {
		a, b = b, a%b
	}
	return a
}
