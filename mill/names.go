package mill

// declare numbers the flows. Names of outputs stand apart: a flow may be one
// and have its name in both.
func (c *compiler) declare() *Diag {
	outputs := map[string]int{}
	for _, i := range c.items {
		var fault *Diag
		switch x := i.(type) {
		case input:
			fault = c.addFlow(x.name, Flow{Type: x.flowType, Period: int(x.every), Input: true})
		case equation:
			c.equations = append(c.equations, numbered{equation: x, flow: len(c.flows)})
			fault = c.addFlow(x.name, Flow{Type: x.flowType})
		case output:
			fault = enterAll(outputs, x.names)
		}
		if fault != nil {
			return fault
		}
	}
	return nil
}

func (c *compiler) addFlow(name flowName, flow Flow) *Diag {
	if fault := enter(c.numbers, name, len(c.flows)); fault != nil {
		return fault
	}
	flow.Name = name.text
	c.flows = append(c.flows, flow)
	return nil
}

func enterAll(seen map[string]int, names []flowName) *Diag {
	for _, name := range names {
		if fault := enter(seen, name, name.at); fault != nil {
			return fault
		}
	}
	return nil
}

func enter(seen map[string]int, name flowName, number int) *Diag {
	if _, twice := seen[name.text]; twice {
		return &Diag{At: name.at, Err: ErrTwice}
	}
	seen[name.text] = number
	return nil
}

// resolve goes through the items again: a name may stand ahead of its flow.
func (c *compiler) resolve() *Diag {
	for _, i := range c.items {
		var fault *Diag
		switch x := i.(type) {
		case equation:
			fault = c.resolveIn(x.body)
		case output:
			fault = c.markOutputs(x.names)
		}
		if fault != nil {
			return fault
		}
	}
	return nil
}

// resolveIn meets names as they stand in the text: operands lie in its order.
func (c *compiler) resolveIn(e expr) *Diag {
	if name, ok := e.(flowName); ok {
		_, fault := c.numberOf(name)
		return fault
	}
	for _, part := range operands(e) {
		if fault := c.resolveIn(part); fault != nil {
			return fault
		}
	}
	return nil
}

func (c *compiler) markOutputs(names []flowName) *Diag {
	for _, name := range names {
		flow, fault := c.numberOf(name)
		if fault != nil {
			return fault
		}
		c.flows[flow].Output = true
	}
	return nil
}

func (c *compiler) numberOf(name flowName) (int, *Diag) {
	flow, known := c.numbers[name.text]
	if !known {
		return 0, &Diag{At: name.at, Err: ErrName}
	}
	return flow, nil
}

// flowOf a name that is resolved.
func (c *compiler) flowOf(name flowName) Flow {
	return c.flows[c.numbers[name.text]]
}
