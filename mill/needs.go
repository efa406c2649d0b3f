package mill

import (
	"maps"
	"slices"
)

func (c *compiler) findNeeds() *Diag {
	needs := map[int][]int{}
	for i := range c.equations {
		q := &c.equations[i]
		q.needs = c.needsOf(q.body)
		needs[q.flow] = q.needs
	}
	for _, q := range c.equations {
		if reaches(needs, q.flow) {
			return &Diag{At: q.name.at, Err: ErrCycle}
		}
	}
	return nil
}

// needsOf an expression: fby and hold ask for what was there before, so that
// nothing within them is needed.
func (c *compiler) needsOf(e expr) []int {
	switch x := e.(type) {
	case flowName:
		return []int{c.numbers[x.text]}
	case delayed, held:
		return nil
	}
	var needs []int
	for _, part := range operands(e) {
		needs = append(needs, c.needsOf(part)...)
	}
	return needs
}

// reaches tells whether a flow comes back to itself by what it needs. What is
// ahead loses each flow that is met, and no flow is met twice: so it ends.
func reaches(needs map[int][]int, flow int) bool {
	ahead := maps.Clone(needs)
	next := slices.Clone(needs[flow])
	for len(next) > 0 {
		met := next[len(next)-1]
		if met == flow {
			return true
		}
		next = append(next[:len(next)-1], ahead[met]...)
		delete(ahead, met)
	}
	return false
}

// tasks parts the equations by their periods.
func (c *compiler) tasks() []Task {
	parted := map[int][]numbered{}
	for _, q := range c.equations {
		period := c.flows[q.flow].Period
		parted[period] = append(parted[period], q)
	}
	var tasks []Task
	for _, period := range slices.Sorted(maps.Keys(parted)) {
		tasks = append(tasks, Task{Period: period, Order: inOrder(parted[period])})
	}
	return tasks
}

// inOrder takes again and again the first one in the text that waits for none
// of the others. No cycle has come so far, so that each time there is one.
func inOrder(equations []numbered) []int {
	waiting := map[int]struct{}{}
	for _, q := range equations {
		waiting[q.flow] = struct{}{}
	}
	var order []int
	for range equations {
		for _, q := range equations {
			if isReady(q, waiting) {
				order = append(order, q.flow)
				delete(waiting, q.flow)
				break
			}
		}
	}
	return order
}

func isReady(q numbered, waiting map[int]struct{}) bool {
	if _, waits := waiting[q.flow]; !waits {
		return false
	}
	for _, need := range q.needs {
		if _, waits := waiting[need]; waits {
			return false
		}
	}
	return true
}
