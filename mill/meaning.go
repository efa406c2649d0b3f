package mill

// The instants: the last one that may be asked for, and the last one at which
// a flow has a value.
const (
	lastAsked = 400
	lastThere = 2000
)

// Meaning: P5.
func (p *Program) Meaning(flow int, ins [][]int64, n int) (int64, error) {
	if p == nil || !has(p.flows, flow) || n < 0 || n > lastAsked {
		return 0, ErrFlow
	}
	logs, fit := p.logsOf(ins)
	if !fit {
		return 0, ErrInputs
	}
	m := meaning{worths: p.worths, logs: logs}
	value, there := m.at(flow, int64(n))
	if !there {
		return 0, ErrInputs
	}
	return value, nil
}

// has tells whether a list goes as far as this number.
func has[T any](list []T, number int) bool {
	return number >= 0 && number < len(list)
}

// logsOf lays the inputs' lists at their flows' numbers, and tells whether
// there are as many as inputs, and only bools where bools must be.
func (p *Program) logsOf(ins [][]int64) ([][]int64, bool) {
	logs := make([][]int64, len(p.flows))
	next := 0
	for i, flow := range p.flows {
		if !flow.Input {
			continue
		}
		if next == len(ins) || !fits(flow.Type, ins[next]) {
			return nil, false
		}
		logs[i] = ins[next]
		next++
	}
	return logs, next == len(ins)
}

func fits(flowType int, values []int64) bool {
	if flowType != boolType {
		return true
	}
	for _, v := range values {
		if v != 0 && v != 1 {
			return false
		}
	}
	return true
}

// meaning works flows out as far as they are asked for. A later instant asks
// for later ones of other flows, never for earlier ones: so what is there of a
// flow is a beginning, and a log holds it.
type meaning struct {
	worths []worth
	logs   [][]int64
}

// at works a flow out from where its log ends. What an instant hangs on of its
// own flow lies ahead of it (else there were a cycle), and is in the log: so
// calls within calls go no deeper than there are flows.
func (m *meaning) at(flow int, instant int64) (int64, bool) {
	if instant > lastThere {
		return 0, false
	}
	for int64(len(m.logs[flow])) <= instant {
		if !m.goOn(flow) {
			return 0, false
		}
	}
	return m.logs[flow][instant], true
}

// goOn works a flow's next value out. An input has none beside those that were
// given.
func (m *meaning) goOn(flow int) bool {
	work := m.worths[flow]
	if work == nil {
		return false
	}
	value, there := work(m.at, int64(len(m.logs[flow])))
	if there {
		m.logs[flow] = append(m.logs[flow], value)
	}
	return there
}
