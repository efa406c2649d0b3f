package mill

import "slices"

// Program is one that was compiled.
type Program struct {
	flows  []Flow
	tasks  []Task
	worths []worth
}

// Compile: P4.
func Compile(text string) (*Program, error) {
	tree, err := Parse(text)
	if err != nil {
		return nil, err
	}
	c := newCompiler(tree)
	if fault := c.findOut(); fault != nil {
		return nil, fault
	}
	return &Program{flows: c.flows, tasks: c.tasks(), worths: c.worths()}, nil
}

// Flows tells of each flow, in the order of their items.
func (p *Program) Flows() []Flow {
	if p == nil {
		return nil
	}
	return slices.Clone(p.flows)
}

// Tasks tells of each task, in the order of their periods.
func (p *Program) Tasks() []Task {
	if p == nil {
		return nil
	}
	tasks := slices.Clone(p.tasks)
	for i := range tasks {
		tasks[i].Order = slices.Clone(tasks[i].Order)
	}
	return tasks
}

// compiler holds what is found out about a tree, step by step.
type compiler struct {
	items     []item
	flows     []Flow
	numbers   map[string]int
	equations []numbered
}

// numbered is an equation with the number of its flow and those of the flows
// that it needs.
type numbered struct {
	equation
	flow  int
	needs []int
}

func newCompiler(tree *Tree) *compiler {
	return &compiler{items: tree.items, numbers: map[string]int{}}
}

// findOut goes the document's steps in their order: each may count on what
// those ahead of it have found.
func (c *compiler) findOut() *Diag {
	for _, step := range []func() *Diag{
		c.declare, c.resolve, c.checkTypes,
		c.findPeriods, c.checkPeriods, c.checkCommonPeriod,
		c.findNeeds,
	} {
		if fault := step(); fault != nil {
			return fault
		}
	}
	return nil
}
