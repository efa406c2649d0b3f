package mill_test

import (
	"fmt"
	"math/big"
	"math/rand"
	"slices"
	"testing"

	"ratemill/mill"
)

// A second machine, by the document's words: it works nothing out, but counts
// how many values each flow has, and asks the second meaning which ones these
// must be.
type steps struct {
	*sense
	clock   int
	overrun bool
	count   []int // of the values of each flow
	tasks   []duty
}

type duty struct {
	period int
	order  []int
	tick   int   // of its job
	left   []int // of its job's equations
}

// newSteps: with lists that do not end ahead of the ticks.
func newSteps(r *rand.Rand, s *second, ticks int) *steps {
	m := &steps{sense: &sense{second: s, ins: map[string][]int64{}, known: map[moment]answer{}}, count: make([]int, len(s.decl))}
	var periods []int
	for _, l := range s.decl {
		name := l.names[0].text
		if l.body != nil {
			periods = append(periods, s.known[name])
			continue
		}
		for n := 0; n*l.every < ticks; n++ {
			value := []int64{r.Int63n(7) - 3, r.Int63(), least, most}[r.Intn(4)]
			if l.typ == "bool" {
				value = r.Int63n(2)
			}
			m.ins[name] = append(m.ins[name], value)
		}
	}
	slices.Sort(periods)
	for _, p := range slices.Compact(periods) {
		m.tasks = append(m.tasks, duty{period: p, order: s.order(p)})
	}
	return m
}

func (m *steps) name(flow int) string { return m.decl[flow].names[0].text }

func (m *steps) period(flow int) int { return m.second.known[m.name(flow)] }

// due: what the next tick must be given.
func (m *steps) due() (ins []int64, bools []int) {
	for _, l := range m.decl {
		if l.body != nil || m.clock%l.every != 0 {
			continue
		}
		if l.typ == "bool" {
			bools = append(bools, len(ins))
		}
		ins = append(ins, m.ins[l.names[0].text][m.clock/l.every])
	}
	return ins, bools
}

// tick: what it must answer to what is due, or to something else.
func (m *steps) tick(fits bool) error {
	switch {
	case m.overrun:
		return mill.ErrOverrun
	case !fits:
		return mill.ErrInputs
	}
	for _, d := range m.tasks {
		m.overrun = m.overrun || m.clock%d.period == 0 && len(d.left) > 0
	}
	if m.overrun {
		return mill.ErrOverrun
	}
	for flow, l := range m.decl {
		if l.body == nil && m.clock%l.every == 0 {
			m.count[flow]++
		}
	}
	for i := range m.tasks {
		if d := &m.tasks[i]; m.clock%d.period == 0 {
			d.tick, d.left = m.clock, d.order
		}
	}
	m.clock++
	return nil
}

func (m *steps) pick(task int) int {
	if task < 0 || task >= len(m.tasks) {
		return -1
	}
	d := &m.tasks[task]
	if len(d.left) == 0 {
		return 0
	}
	for flow := range m.decl {
		if m.needs(d.left[0], flow) && m.count[flow] <= d.tick/m.period(flow) {
			return 0
		}
	}
	m.count[d.left[0]]++
	if d.left = d.left[1:]; len(d.left) == 0 {
		return 2
	}
	return 1
}

// log: the beginning of what the flow means.
func (m *steps) log(flow int) []*big.Int {
	var out []*big.Int
	for n := range m.count[flow] {
		out = append(out, m.of(m.name(flow), int64(n)).value)
	}
	return out
}

// sameAs holds all that a machine tells against the second one.
func (m *steps) sameAs(own *mill.Machine) error {
	if own.Clock() != m.clock || own.Overrun() != m.overrun {
		return fmt.Errorf("clock %d, overrun %t, want %d, %t", own.Clock(), own.Overrun(), m.clock, m.overrun)
	}
	busy := false
	for i, d := range m.tasks {
		if own.Busy(i) != (len(d.left) > 0) {
			return fmt.Errorf("task %d is busy: %t", i, own.Busy(i))
		}
		busy = busy || len(d.left) > 0
	}
	for flow := range m.decl {
		got, want := own.Log(flow), m.log(flow)
		if !slices.EqualFunc(got, want, func(a int64, b *big.Int) bool { return b != nil && b.Cmp(big.NewInt(a)) == 0 }) {
			return fmt.Errorf("the log of %s: %v, want %v", m.name(flow), got, want)
		}
		if p := m.period(flow); !busy && len(got) != (m.clock+p-1)/p {
			return fmt.Errorf("nothing is busy, the clock is %d, and %s of period %d has %d values", m.clock, m.name(flow), p, len(got))
		}
	}
	return nil
}

// tickBoth: what is due, or, now and then, something that does not fit.
func (m *steps) tickBoth(r *rand.Rand, own *mill.Machine) (error, error) {
	ins, bools := m.due()
	fits := r.Intn(6) > 0
	switch wrong := r.Intn(3); {
	case fits:
	case wrong == 0 && len(ins) > 0:
		ins = slices.Delete(ins, 0, 1)
	case wrong == 1 && len(bools) > 0:
		ins[bools[r.Intn(len(bools))]] = []int64{2, -1, most}[r.Intn(3)]
	default:
		ins = append(ins, r.Int63n(2))
	}
	return own.Tick(ins), m.tick(fits)
}

// goBoth goes so many steps with both, and tells the first that differs. The
// less eager, the sooner it is overrun.
func (m *steps) goBoth(r *rand.Rand, own *mill.Machine, ticks, eager int, seen map[string]int) error {
	for step := 0; m.clock < ticks && step < ticks*eager; step++ {
		what, got, want := "tick", "", ""
		if r.Intn(eager) == 0 {
			a, b := m.tickBoth(r, own)
			got, want = fmt.Sprint(a), fmt.Sprint(b)
		} else {
			task := r.Intn(len(m.tasks)+2) - 1
			what, got, want = fmt.Sprint("pick ", task), fmt.Sprint(own.Pick(task)), fmt.Sprint(m.pick(task))
			if want == "0" && len(m.tasks[task].left) > 0 {
				seen["waits"]++
			}
		}
		if seen[want]++; m.overrun {
			seen["overrun: "+want]++
		}
		if got != want {
			return fmt.Errorf("step %d, at %d: %s: %s, want %s", step, m.clock, what, got, want)
		}
		if err := m.sameAs(own); err != nil {
			return fmt.Errorf("step %d, %s: %w", step, what, err)
		}
	}
	return nil
}

// woven: a program in which flows of several rates ask for one another, more
// than in those that are made up. A flow needs only those planned ahead of it.
func woven(r *rand.Rand) (string, *second) {
	periods := [][]int{{1, 2, 4}, {1, 2, 3, 6}, {2, 6, 12}}[r.Intn(3)]
	var flows []plan
	for i, p := range periods {
		flows = append(flows, plan{name: fmt.Sprint("x", i), period: p, input: true})
	}
	for i := range 3 + r.Intn(8) {
		flows = append(flows, plan{name: fmt.Sprint("f", i), period: periods[r.Intn(len(periods))]})
	}
	var lines []*line
	for i, f := range flows {
		l := &line{what: "input", names: []spot{{text: f.name}}, typ: "int", every: f.period}
		if !f.input {
			l.what, l.body = "equation", wovenBody(r, flows, i)
		}
		lines = append(lines, l)
	}
	r.Shuffle(len(lines), func(i, k int) { lines[i], lines[k] = lines[k], lines[i] })
	w := &writer{rand: r}
	for _, l := range lines {
		w.line(l)
	}
	return w.out.String(), &second{lines: lines}
}

// wovenBody: the input of its period, and what others are or were.
func wovenBody(r *rand.Rand, flows []plan, own int) *part {
	period := flows[own].period
	input := slices.IndexFunc(flows, func(f plan) bool { return f.period == period })
	body := &part{what: "name", text: flows[input].name}
	for range 1 + r.Intn(3) {
		e := needing(flows[r.Intn(own)], period)
		if r.Intn(3) == 0 {
			e = recalling(flows[r.Intn(len(flows))], period)
		}
		if e != nil {
			body = &part{what: pickOne(r, "+", "-", "*", "min"), kids: []*part{e, body}}
		}
	}
	return body
}

// needing: a flow as it is at this tick; nil, if it has no instant at each.
func needing(f plan, period int) *part {
	name := &part{what: "name", text: f.name}
	switch {
	case f.period == period:
		return name
	case period%f.period == 0:
		return &part{what: "under", k: period / f.period, kids: []*part{name}}
	}
	return nil
}

// recalling: a flow as it was ahead of this tick.
func recalling(f plan, period int) *part {
	name := &part{what: "name", text: f.name}
	before := &part{what: "fby", first: "-1", kids: []*part{name}}
	switch {
	case f.period == period:
		return before
	case period%f.period == 0:
		return &part{what: "under", k: period / f.period, kids: []*part{before}}
	case f.period%period == 0:
		return &part{what: "hold", first: "5", k: f.period / period, kids: []*part{name}}
	}
	return nil
}

func TestP6P7AsTheSecondMachineHasIt(t *testing.T) {
	r := rand.New(rand.NewSource(7))
	seen := map[string]int{}
	for round := range 2000 {
		text, s := madeUp(r, 0)
		if round%2 == 0 {
			text, s = woven(r)
		}
		p, err := mill.Compile(text)
		if _, wrong, _ := s.compile(); wrong != nil || err != nil {
			if round%2 == 0 {
				t.Fatalf("%q: %v, %v", text, wrong, err)
			}
			continue // P4's test looks after these
		}
		const ticks = 26
		m := newSteps(r, s, ticks)
		if err := m.goBoth(r, p.Machine(), ticks, []int{3, 8, 30}[r.Intn(3)], seen); err != nil {
			t.Fatalf("%q: %v", text, err)
		}
	}
	for _, kind := range []string{
		"<nil>", fmt.Sprint(mill.ErrInputs), fmt.Sprint(mill.ErrOverrun), "-1", "0", "1", "2", "waits",
		"overrun: 0", "overrun: 1", "overrun: 2",
	} {
		if seen[kind] < 500 {
			t.Errorf("too few of a kind: %v", seen)
			break
		}
	}
}

// bothWays: rates that wait for one another, and hold what the other one was.
const bothWays = `input x:int every 2;input y:bool every 3;
	a:int=hold(1,c,3)+hold(2,under(a,4),4)-fby(5,a);
	s:int=x+fby(0,s)+under(a,2);t:int=under(a*3,2)+s;
	c:int=under(a,3)+(if y then fby(1,c) else 2);
	u:int=under(s+t,3)+under(c,2)+under(a,6);v:int=hold(9,u,3)+s;w:bool=under(v,3)<u xor under(fby(true,y),2);`

// carelessly goes up to so many ticks, and picks at random a few times in each.
func carelessly(r *rand.Rand, p *mill.Program, ticks, most int) *mill.Machine {
	m := p.Machine()
	for range ticks {
		var ins []int64
		for _, f := range p.Flows() {
			if f.Input && m.Clock()%f.Period == 0 {
				ins = append(ins, r.Int63n(2))
			}
		}
		if m.Tick(ins) != nil {
			break
		}
		for range r.Intn(most) {
			m.Pick(r.Intn(len(p.Tasks())))
		}
	}
	return m
}

// P11: whatever is picked when, the logs are beginnings of what flows mean, and
// whole if nothing is busy.
func TestP11LogsWhateverIsPicked(t *testing.T) {
	r := rand.New(rand.NewSource(11))
	p := compiled(t, bothWays)
	ends := map[bool]int{}
	for round := range 300 {
		m := carelessly(r, p, 30, 40+round)
		ends[m.Overrun()]++
		busy := false
		for task := range p.Tasks() {
			busy = busy || m.Busy(task)
		}
		for flow, f := range p.Flows() {
			log := m.Log(flow)
			for n, v := range log {
				if want, err := p.Meaning(flow, [][]int64{m.Log(0), m.Log(1)}, n); v != want || err != nil {
					t.Fatalf("round %d: %s at %d is %d in the log, and means %d, %v", round, f.Name, n, v, want, err)
				}
			}
			if !busy && len(log) != (m.Clock()+f.Period-1)/f.Period {
				t.Fatalf("round %d: nothing is busy at %d, and %s has %d values", round, m.Clock(), f.Name, len(log))
			}
		}
	}
	if ends[true] < 20 || ends[false] < 20 {
		t.Errorf("too few of a kind: overrun or not: %v", ends)
	}
}
