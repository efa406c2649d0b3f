package mill

// What Pick answers.
const (
	noTask  = -1
	nothing = 0
	oneDone = 1
	allDone = 2
)

// Machine carries a program out in small steps. It keeps each flow's values
// whole, not only the newest: a job may be so late that a flow it asks for has
// gone on. A job is what of a task's order is left to do.
type Machine struct {
	program Program
	clock   int
	overrun bool
	logs    [][]int64
	jobs    [][]int
}

// Machine: P6.
func (p *Program) Machine() *Machine {
	if p == nil {
		return nil
	}
	return &Machine{
		program: *p,
		logs:    make([][]int64, len(p.flows)),
		jobs:    make([][]int, len(p.tasks)),
	}
}

// Tick: P6.
func (m *Machine) Tick(ins []int64) error {
	if m == nil {
		return ErrInputs
	}
	if m.overrun {
		return ErrOverrun
	}
	inputs, tasks := m.dueInputs(), m.dueTasks()
	if !m.fit(inputs, ins) {
		return ErrInputs
	}
	if m.anyBusy(tasks) {
		m.overrun = true
		return ErrOverrun
	}
	for i, flow := range inputs {
		m.logs[flow] = append(m.logs[flow], ins[i])
	}
	for _, task := range tasks {
		m.jobs[task] = m.program.tasks[task].Order
	}
	m.clock++
	return nil
}

// dueInputs are those that have an instant at this tick.
func (m *Machine) dueInputs() []int {
	var due []int
	for i, flow := range m.program.flows {
		if flow.Input && m.clock%flow.Period == 0 {
			due = append(due, i)
		}
	}
	return due
}

func (m *Machine) dueTasks() []int {
	var due []int
	for i, task := range m.program.tasks {
		if m.clock%task.Period == 0 {
			due = append(due, i)
		}
	}
	return due
}

func (m *Machine) fit(inputs []int, ins []int64) bool {
	if len(inputs) != len(ins) {
		return false
	}
	for i, flow := range inputs {
		if !fits(m.program.flows[flow].Type, ins[i:i+1]) {
			return false
		}
	}
	return true
}

func (m *Machine) anyBusy(tasks []int) bool {
	for _, task := range tasks {
		if m.Busy(task) {
			return true
		}
	}
	return false
}

// Pick: P7.
func (m *Machine) Pick(task int) int {
	if m == nil || !has(m.jobs, task) {
		return noTask
	}
	left := m.jobs[task]
	if len(left) == 0 || !m.goOn(left[0]) {
		return nothing
	}
	m.jobs[task] = left[1:]
	if len(left) == 1 {
		return allDone
	}
	return oneDone
}

// goOn works an equation out at its job's instant: each job gives it one value,
// so that its log is as long as the jobs ahead of this one were many. Only what
// it needs through under may not be there yet: the order takes care of the same
// period, and what fby and hold ask for is of jobs that were done in time.
func (m *Machine) goOn(flow int) bool {
	value, there := m.program.worths[flow](m.at, int64(len(m.logs[flow])))
	if there {
		m.logs[flow] = append(m.logs[flow], value)
	}
	return there
}

func (m *Machine) at(flow int, instant int64) (int64, bool) {
	log := m.logs[flow]
	if !has(log, int(instant)) {
		return 0, false
	}
	return log[instant], true
}

// Overrun tells whether a job was not done in time.
func (m *Machine) Overrun() bool { return m != nil && m.overrun }

// Clock tells the tick that comes next.
func (m *Machine) Clock() int {
	if m == nil {
		return 0
	}
	return m.clock
}

// Busy tells whether a task has a job that is not done.
func (m *Machine) Busy(task int) bool {
	return m != nil && has(m.jobs, task) && len(m.jobs[task]) > 0
}

// Log tells a flow's values from instant 0 on; it is nil only of no flow.
func (m *Machine) Log(flow int) []int64 {
	if m == nil || !has(m.logs, flow) {
		return nil
	}
	return append([]int64{}, m.logs[flow]...)
}
