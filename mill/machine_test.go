package mill_test

import (
	"fmt"
	"slices"
	"strings"
	"sync"
	"testing"

	"ratemill/mill"
	"ratemill/plain"
)

// rates: tasks: 0 of period 2: s, h; 1 of period 3: c; 2 of period 4: u.
const rates = "input x:int every 2;input b:bool every 3;s:int=x+fby(0,s);u:int=under(s,2);h:int=hold(7,u,2)+s;c:bool=b xor fby(false,c);"

func machineOf(t *testing.T, text string) *mill.Machine {
	t.Helper()
	m := compiled(t, text).Machine()
	if m == nil {
		t.Fatalf("%q has no machine", text)
	}
	return m
}

// seen spells out all that a machine tells: its clock, ! if it is overrun, the
// tasks that are busy, the logs of all flows.
func seen(m *mill.Machine) string {
	out := fmt.Sprint(m.Clock())
	if m.Overrun() {
		out += "!"
	}
	for task := range 60 {
		if m.Busy(task) {
			out += fmt.Sprint(" busy", task)
		}
	}
	for flow := 0; m.Log(flow) != nil; flow++ {
		out += fmt.Sprint(" ", m.Log(flow))
	}
	return out
}

func sees(t *testing.T, m *mill.Machine, want string) {
	t.Helper()
	if got := seen(m); got != want {
		t.Errorf("the machine tells %s, want %s", got, want)
	}
}

func ticks(t *testing.T, m *mill.Machine, ins ...int64) {
	t.Helper()
	clock := m.Clock()
	if err := m.Tick(ins); err != nil || m.Clock() != clock+1 {
		t.Fatalf("Tick(%v) at %d: %v, the clock is %d", ins, clock, err, m.Clock())
	}
}

// ticksNot: a tick that is refused, and by which nothing that the machine tells
// changes but, with an overrun, that.
func ticksNot(t *testing.T, m *mill.Machine, want error, ins ...int64) {
	t.Helper()
	before := seen(m)
	if err := m.Tick(ins); err != want {
		t.Errorf("Tick(%v) at %d: %v, want %v", ins, m.Clock(), err, want)
	}
	if want == mill.ErrOverrun && !strings.Contains(before, "!") {
		clock := fmt.Sprint(m.Clock())
		before = strings.Replace(before, clock, clock+"!", 1)
	}
	sees(t, m, before)
}

// picks: pairs of a task and of what its pick must answer.
func picks(t *testing.T, m *mill.Machine, pairs ...[2]int) {
	t.Helper()
	for i, pair := range pairs {
		before := seen(m)
		if got := m.Pick(pair[0]); got != pair[1] {
			t.Fatalf("pick %d: Pick(%d): %d, want %d", i, pair[0], got, pair[1])
		}
		if same := seen(m) == before; same != (pair[1] <= 0) {
			t.Fatalf("pick %d: Pick(%d): from %s to %s", i, pair[0], before, seen(m))
		}
	}
}

// pickAll goes round until nothing is busy: as often as there may be equations.
func pickAll(t *testing.T, m *mill.Machine, tasks int) {
	t.Helper()
	for range 60 {
		for task := range tasks {
			m.Pick(task)
		}
	}
	for task := range tasks {
		if m.Busy(task) {
			t.Fatalf("task %d does not end: %s", task, seen(m))
		}
	}
}

func TestP6P7Example(t *testing.T) {
	m := machineOf(t, "input x : int every 2; s : int = x + fby(0, s); u : int = under(s, 2); h : int = hold(7, u, 2) + s; output h;")
	ticks(t, m, 1)
	sees(t, m, "1 busy0 busy1 [1] [] [] []")
	picks(t, m, [2]int{1, 0}, [2]int{0, 1}, [2]int{1, 2}, [2]int{0, 2})
	for tick := 1; tick <= 8; tick++ {
		if tick%2 == 1 {
			ticks(t, m)
			continue
		}
		ticks(t, m, int64(tick/2+1))
		pickAll(t, m, 2)
	}
	sees(t, m, "9 [1 2 3 4 5] [1 3 6 10 15] [1 6 15] [8 10 7 11 21]")
	m = machineOf(t, "input x : int every 2; s : int = x + fby(0, s); u : int = under(s, 2); h : int = hold(7, u, 2) + s; output h;")
	ticks(t, m, 1)
	ticks(t, m)
	ticksNot(t, m, mill.ErrOverrun, 2)
}

func TestP6NewMachine(t *testing.T) {
	m := machineOf(t, rates)
	sees(t, m, "0 [] [] [] [] [] []")
	for task := range 3 {
		picks(t, m, [2]int{task, 0})
	}
	ticks(t, m, 5, 1)
	sees(t, m, "1 busy0 busy1 busy2 [5] [1] [] [] [] []")
}

// Ticks at which no input, no task or neither has an instant.
func TestP6TicksWithoutInstants(t *testing.T) {
	m := machineOf(t, "input x:int every 6;input y:int every 4;a:int=hold(1,x,2);")
	ticks(t, m, 10, 20)
	sees(t, m, "1 busy0 [10] [20] []")
	picks(t, m, [2]int{0, 2})
	for range 2 {
		ticksNot(t, m, mill.ErrInputs, 1)
		ticks(t, m)
	}
	sees(t, m, "3 [10] [20] [1]")
	ticks(t, m) // tick 3: no input, but a job
	sees(t, m, "4 busy0 [10] [20] [1]")
	picks(t, m, [2]int{0, 2})
	ticks(t, m, 21) // tick 4: an input, but no job
	sees(t, m, "5 [10] [20 21] [1 1]")
	ticks(t, m)
	ticks(t, m, 11)
	sees(t, m, "7 busy0 [10 11] [20 21] [1 1]")
	picks(t, m, [2]int{0, 2})
	sees(t, m, "7 [10 11] [20 21] [1 1 10]")
}

func TestP6NoFlowsOrNoTasks(t *testing.T) {
	for _, m := range []*mill.Machine{machineOf(t, ""), machineOf(t, "# nothing"), (&mill.Program{}).Machine(), {}} {
		ticksNot(t, m, mill.ErrInputs, 1)
		ticks(t, m)
		ticks(t, m)
		sees(t, m, "2")
		picks(t, m, [2]int{0, -1})
	}
	m := machineOf(t, "input x:int every 1;output x;input y:bool every 2;")
	ticks(t, m, 3, 1)
	ticks(t, m, 4)
	ticks(t, m, 5, 0)
	sees(t, m, "3 [3 4 5] [1 0]")
	picks(t, m, [2]int{0, -1})
}

func TestP6Inputs(t *testing.T) {
	m := machineOf(t, "input b:bool every 1;a:int=x;input x:int every 2;input c:bool every 3;")
	for _, ins := range [][]int64{
		nil, {}, {1}, {1, 1}, {1, 1, 1, 1}, make([]int64, 100),
		{2, 1, 1}, {-1, 1, 1}, {1, 1, 2}, {1, 1, -1}, {most, 1, 1}, {1, 1, least}, {256, 1, 1}, {1, 1, 1 << 32},
	} {
		ticksNot(t, m, mill.ErrInputs, ins...)
	}
	sees(t, m, "0 [] [] [] []")
	ticks(t, m, 1, most, 0)
	sees(t, m, "1 busy0 [1] [] [9223372036854775807] [0]")
	pickAll(t, m, 1)
	for _, ins := range [][]int64{nil, {1, 1}, {1, 1, 1}, {2}} {
		ticksNot(t, m, mill.ErrInputs, ins...)
	}
	ticks(t, m, 0)
	for _, ins := range [][]int64{nil, {1}, {2, 1}, {1, 1, 1}} {
		ticksNot(t, m, mill.ErrInputs, ins...)
	}
	ticks(t, m, 1, least) // the second value is an int's here
	pickAll(t, m, 1)
	ticksNot(t, m, mill.ErrInputs, 1, 2)
	ticks(t, m, 0, 1) // and a bool's here
	sees(t, m, "4 [1 0 1 0] [9223372036854775807 -9223372036854775808] [9223372036854775807 -9223372036854775808] [0 1]")
}

func TestP6ErrorsInTheirOrder(t *testing.T) {
	m := machineOf(t, rates)
	ticks(t, m, 1, 1)
	ticks(t, m)
	for _, ins := range [][]int64{nil, {1, 1}, {1, 2, 3}} {
		ticksNot(t, m, mill.ErrInputs, ins...)
	}
	ticksNot(t, m, mill.ErrOverrun, 2)
	for _, ins := range [][]int64{{2}, nil, {1, 1}, {1, 2, 3}} {
		ticksNot(t, m, mill.ErrOverrun, ins...)
	}
	sees(t, m, "2! busy0 busy1 busy2 [1] [1] [] [] [] []")
	m = machineOf(t, "input b:bool every 1;a:bool=b;")
	ticks(t, m, 1)
	ticksNot(t, m, mill.ErrInputs, 2)
	ticksNot(t, m, mill.ErrOverrun, 1)
	ticksNot(t, m, mill.ErrOverrun, 2)
}

func TestP6Overrun(t *testing.T) {
	// a job of which one equation is left is not done
	m := machineOf(t, rates)
	ticks(t, m, 1, 1)
	picks(t, m, [2]int{0, 1})
	ticks(t, m)
	ticksNot(t, m, mill.ErrOverrun, 2)
	// what has a job goes on, what has none gets none, and no tick comes back
	picks(t, m, [2]int{2, 2}, [2]int{0, 2}, [2]int{0, 0}, [2]int{1, 2}, [2]int{1, 0}, [2]int{2, 0}, [2]int{3, -1}, [2]int{-1, -1})
	sees(t, m, "2! [1] [1] [1] [1] [8] [1]")
	ticksNot(t, m, mill.ErrOverrun, 2)
	ticksNot(t, m, mill.ErrOverrun)
	picks(t, m, [2]int{0, 0}, [2]int{1, 0}, [2]int{2, 0})
}

// A job is late only at a tick of its own task.
func TestP6LateJobsOfOtherPeriods(t *testing.T) {
	m := machineOf(t, rates)
	ticks(t, m, 1, 1)
	picks(t, m, [2]int{0, 1}, [2]int{0, 2})
	ticks(t, m)
	ticks(t, m, 2) // 1 and 2 are busy still
	picks(t, m, [2]int{0, 1}, [2]int{0, 2}, [2]int{1, 2})
	ticks(t, m, 0)
	sees(t, m, "4 busy1 busy2 [1 2] [1 0] [1 3] [] [8 10] [1]")
	ticksNot(t, m, mill.ErrOverrun, 3) // by task 2: task 0 has no job
	picks(t, m, [2]int{0, 0}, [2]int{2, 2}, [2]int{1, 2})
	sees(t, m, "4! [1 2] [1 0] [1 3] [1] [8 10] [1 1]")
}

// Each task that is busy at its tick is late, wherever it stands among them.
func TestP6EachTaskMayBeLate(t *testing.T) {
	const text = "input x:int every 1;input y:int every 2;a:int=x;c:int=y;"
	for late, want := range []string{"2! busy0 [1 3] [2] [1] [2]", "2! busy1 [1 3] [2] [1 3] []"} {
		m := machineOf(t, text)
		ticks(t, m, 1, 2)
		picks(t, m, [2]int{0, 2})
		if late == 0 {
			picks(t, m, [2]int{1, 2})
		}
		ticks(t, m, 3)
		if late == 1 {
			picks(t, m, [2]int{0, 2})
		}
		ticksNot(t, m, mill.ErrOverrun, 5, 6)
		sees(t, m, want)
	}
}

func TestP7NoSuchTask(t *testing.T) {
	idle, busy := machineOf(t, rates), machineOf(t, rates)
	ticks(t, busy, 1, 1)
	for _, m := range []*mill.Machine{idle, busy} {
		for _, task := range []int{-1, 3, 4, 60, most, least} {
			picks(t, m, [2]int{task, -1})
			if m.Busy(task) {
				t.Errorf("task %d is busy", task)
			}
		}
	}
}

func TestP7StepsOfAJob(t *testing.T) {
	m := machineOf(t, "input x:int every 1;c:int=a+d;a:int=x+1;d:int=a*2;")
	ticks(t, m, 5)
	for _, step := range []struct {
		answer int
		want   string
	}{
		{1, "1 busy0 [5] [] [6] []"}, {1, "1 busy0 [5] [] [6] [12]"}, {2, "1 [5] [18] [6] [12]"},
		{0, "1 [5] [18] [6] [12]"}, {0, "1 [5] [18] [6] [12]"},
	} {
		picks(t, m, [2]int{0, step.answer})
		sees(t, m, step.want)
	}
	ticks(t, m, 6)
	picks(t, m, [2]int{0, 1}, [2]int{0, 1}, [2]int{0, 2}, [2]int{0, 0})
	sees(t, m, "2 [5 6] [18 21] [6 7] [12 14]")
}

// What waits, and for what: names through under that no fby or hold is around.
func TestP7WaitsThroughUnder(t *testing.T) {
	for _, c := range []struct {
		text  string // u of period 4, the only one, beside s of period 2 and v of period 1
		waits int    // for so many of: v, s, at the first instant
	}{
		{"under(s,2)", 2}, {"under(v,4)", 1}, {"under(under(v,2),2)", 1}, {"under(s+under(v,2),2)", 2},
		{"under(s,2)*0", 2}, {"0*under(s,2)", 2}, {"y+under(s,2)", 2}, {"under(v,4)+under(s,2)", 2}, {"under(s,2)+under(v,4)", 2},
		{"if under(v,4)>0 then y else under(s,2)", 2}, {"if y>0 then y else under(s,2)", 2}, {"if y<0 then under(s,2) else y", 2},
		{"if true or under(s,2)>0 then y else y", 2}, {"min(y,-under(v,4))", 1}, {"under(min(0,max(s,s)),2)", 2},
		{"y", 0}, {"y+under(x,4)", 0}, {"y+under(x*2,4)", 0}, {"y+under(fby(1,s),2)", 0}, {"y+fby(1,under(s,2))", 0},
		{"y+under(hold(1,s,2),4)", 0}, {"y+under(fby(1,v)+x,4)", 0}, {"y+under(hold(1,under(v,2),2),4)", 0},
		{"under(hold(1,s,2)+v,4)", 1}, {"under(fby(1,s)+s,2)", 2}, {"under(fby(1,s)+under(v,2),2)", 1},
	} {
		m := machineOf(t, "input x:int every 1;input y:int every 4;v:int=x;s:int=under(x,2)+1;u:int="+c.text+";")
		for tick := range 9 {
			ins := []int64{int64(tick), int64(tick)}
			if tick%4 != 0 {
				ticks(t, m, ins[:1]...)
				pickAll(t, m, 2)
				continue
			}
			ticks(t, m, ins...)
			for task := range c.waits {
				picks(t, m, [2]int{2, 0})
				picks(t, m, [2]int{task, 2})
			}
			picks(t, m, [2]int{2, 2}, [2]int{2, 0})
			pickAll(t, m, 3)
		}
	}
}

// A wait in the middle of a job, and one in a chain of three rates.
func TestP7WaitsBetween(t *testing.T) {
	m := machineOf(t, "input x:int every 1;a:int=x*2;d:int=x+a;c:int=under(x,2);e:int=c+under(d,2);f:int=e+1;g:int=under(f,3);")
	ticks(t, m, 3)
	picks(t, m, [2]int{2, 0}, [2]int{1, 1}, [2]int{1, 0}, [2]int{0, 1}, [2]int{1, 0}, [2]int{0, 2},
		[2]int{2, 0}, [2]int{1, 1}, [2]int{2, 0}, [2]int{1, 2}, [2]int{1, 0}, [2]int{2, 2}, [2]int{2, 0})
	sees(t, m, "1 [3] [6] [9] [3] [12] [13] [13]")
}

// A late job asks for what was at its own tick, whatever has come since.
func TestP7LateJobsAskForTheirOwnTick(t *testing.T) {
	m := machineOf(t, "input x:int every 1;s:int=x+fby(0,s);u:int=under(s,4)*10;w:int=fby(-1,w)+under(x,4);")
	for tick := range int64(4) {
		ticks(t, m, tick+1)
		picks(t, m, [2]int{0, 2})
	}
	sees(t, m, "4 busy1 [1 2 3 4] [1 3 6 10] [] []")
	picks(t, m, [2]int{1, 1}, [2]int{1, 2})
	for tick := range int64(4) {
		ticks(t, m, tick+5)
		picks(t, m, [2]int{0, 2})
	}
	ticksNot(t, m, mill.ErrOverrun, 9)
	picks(t, m, [2]int{1, 1}, [2]int{1, 2}, [2]int{1, 0}, [2]int{0, 0})
	sees(t, m, "8! [1 2 3 4 5 6 7 8] [1 3 6 10 15 21 28 36] [10 150] [0 5]")
}

// hold and fby ask for what was ahead, though a value of this tick is there.
func TestP7HoldAndFbyAskForWhatWasAhead(t *testing.T) {
	m := machineOf(t, "input x:int every 1;u:int=under(x,2);h:int=hold(7,u,2);f:int=fby(8,x);g:int=under(fby(9,x),2);")
	for tick := range int64(6) {
		ticks(t, m, 10+tick)
		for _, task := range []int{1, 1, 0, 0} {
			m.Pick(task)
		}
	}
	sees(t, m, "6 [10 11 12 13 14 15] [10 12 14] [7 7 10 10 12 12] [8 10 11 12 13 14] [9 11 13]")
}

func TestP7BoolsAreNumbers(t *testing.T) {
	m := machineOf(t, "input b:bool every 1;c:bool=not b;d:bool=b==c;f:bool=b or fby(true,c);")
	for _, v := range []int64{1, 0} {
		ticks(t, m, v)
		pickAll(t, m, 1)
	}
	sees(t, m, "2 [1 0] [0 1] [0 0] [1 0]")
}

func TestP7LogOfNoFlow(t *testing.T) {
	fresh, used := machineOf(t, rates), machineOf(t, rates)
	ticks(t, used, 1, 1)
	pickAll(t, used, 3)
	for _, m := range []*mill.Machine{fresh, used} {
		for _, flow := range []int{-1, 6, 7, 60, most, least} {
			if l := m.Log(flow); l != nil {
				t.Errorf("the log of flow %d: %v", flow, l)
			}
		}
		for flow := range 6 {
			if l := m.Log(flow); l == nil || len(l) != m.Clock() {
				t.Errorf("the log of flow %d: %v", flow, l)
			}
		}
	}
}

// Meaning's last instants are not the machine's.
func TestP7InstantsAbove2000(t *testing.T) {
	m := machineOf(t, "input x:int every 1;s:int=x+fby(0,s);u:int=under(x,500);v:int=under(s,1000);")
	for tick := range int64(3001) {
		ticks(t, m, tick)
		if m.Pick(2); m.Pick(0) != 2 {
			t.Fatalf("no job at tick %d", tick)
		}
		m.Pick(1)
		m.Pick(2)
	}
	if s := m.Log(1); len(s) != 3001 || s[3000] != 3000*3001/2 || m.Clock() != 3001 || m.Overrun() {
		t.Errorf("s has %d values, the clock is %d", len(s), m.Clock())
	}
	if u, v := fmt.Sprint(m.Log(2)), fmt.Sprint(m.Log(3)); u != "[0 500 1000 1500 2000 2500 3000]" || v != "[0 500500 2001000 4501500]" {
		t.Errorf("u is %s, v %s", u, v)
	}
}

func TestP1MachineKeepsNothingOfOthers(t *testing.T) {
	p := compiled(t, rates)
	m := p.Machine()
	ins := []int64{5, 1, 77, 77}[:2]
	ticks(t, m, ins...)
	if got := fmt.Sprint(ins[:4]); got != "[5 1 77 77]" {
		t.Errorf("what was handed in is now %s", got)
	}
	for i := range ins {
		ins[i] = 9
	}
	for _, task := range p.Tasks() {
		clear(task.Order)
	}
	clear(p.Flows())
	pickAll(t, m, 3)
	sees(t, m, "1 [5] [1] [5] [5] [12] [1]")
	for flow := range 6 {
		l := m.Log(flow)
		l[0] = 99
		l = append(l[:1], 98, 97)
		clear(l)
	}
	sees(t, m, "1 [5] [1] [5] [5] [12] [1]")
	old := m.Log(2)
	ticks(t, m)
	ticks(t, m, 6)
	pickAll(t, m, 3)
	if fmt.Sprint(old) != "[5]" || fmt.Sprint(m.Log(2)) != "[5 11]" {
		t.Errorf("a log that was told is now %v, the log %v", old, m.Log(2))
	}
}

// Machines of one program do not know of one another.
func TestP6MachinesOfOneProgram(t *testing.T) {
	p := compiled(t, rates)
	a, b := p.Machine(), p.Machine()
	ticks(t, a, 1, 1)
	sees(t, b, "0 [] [] [] [] [] []")
	ticks(t, b, 2, 0)
	picks(t, a, [2]int{0, 1})
	picks(t, b, [2]int{2, 0}, [2]int{0, 1}, [2]int{2, 2})
	ticks(t, a)
	ticksNot(t, a, mill.ErrOverrun, 1)
	sees(t, b, "1 busy0 busy1 [2] [0] [2] [2] [] []")
	sees(t, a, "2! busy0 busy1 busy2 [1] [1] [1] [] [] []")
	sees(t, p.Machine(), "0 [] [] [] [] [] []")
}

func TestP1MachinesByGoroutines(t *testing.T) {
	p := compiled(t, rates)
	told := make([]string, 16)
	var all sync.WaitGroup
	for i := range told {
		all.Go(func() {
			m := p.Machine()
			for tick := range int64(60) {
				var ins []int64
				if tick%2 == 0 {
					ins = append(ins, tick)
				}
				if tick%3 == 0 {
					ins = append(ins, tick%2)
				}
				if err := m.Tick(ins); err != nil {
					t.Errorf("Tick(%v): %v", ins, err)
				}
				for task := range 12 {
					m.Pick((i + task) % 3)
				}
			}
			told[i] = seen(m)
		})
	}
	all.Wait()
	if slices.Sort(told); told[0] != told[len(told)-1] {
		t.Errorf("machines of one program: %s, %s", told[0], told[len(told)-1])
	}
}

func TestP1NoMachine(t *testing.T) {
	var none *mill.Program
	m := none.Machine()
	if m != nil {
		t.Errorf("no program has a machine")
	}
	for _, ins := range [][]int64{nil, {1}} {
		if err := m.Tick(ins); err != mill.ErrInputs {
			t.Errorf("no machine ticks: %v", err)
		}
	}
	if m.Pick(0) != -1 || m.Overrun() || m.Clock() != 0 || m.Busy(0) || m.Log(0) != nil {
		t.Errorf("no machine tells something")
	}
}

func TestP6FaultsFromOutside(t *testing.T) {
	m := machineOf(t, "input x:int every 1;a:int=x;")
	for i, c := range []struct {
		ins  []int64
		want plain.Fault
	}{
		{nil, plain.Fault{E: 12, At: -1}}, {[]int64{4}, plain.Fault{}},
		{[]int64{4, 4}, plain.Fault{E: 12, At: -1}}, {[]int64{5}, plain.Fault{E: 13, At: -1}}, {nil, plain.Fault{E: 13, At: -1}},
	} {
		if f := plain.Tick(m, c.ins); f != c.want {
			t.Errorf("tick %d: %v, want %v", i, f, c.want)
		}
	}
	sees(t, m, "1! busy0 [4] []")
}
