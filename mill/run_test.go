package mill_test

import (
	"fmt"
	"math/big"
	"math/rand"
	"runtime"
	"slices"
	"strings"
	"sync"
	"testing"
	"time"

	"ratemill/mill"
	"ratemill/plain"
)

// run: what Run answers, if it answers: one whose tasks wait for each other
// never does.
func run(t *testing.T, p *mill.Program, ins [][]int64, ticks int) ([][]int64, error) {
	t.Helper()
	type answer struct {
		logs [][]int64
		err  error
	}
	got := make(chan answer, 1)
	go func() {
		logs, err := p.Run(ins, ticks)
		got <- answer{logs, err}
	}()
	select {
	case a := <-got:
		return a.logs, a.err
	case <-time.After(time.Minute):
		t.Fatalf("a run of %d ticks does not end", ticks)
	}
	return nil, nil
}

// runs: a run that must give these logs. (No log, of a flow there is, is nil.)
func runs(t *testing.T, p *mill.Program, ins [][]int64, ticks int, want string) {
	t.Helper()
	logs, err := run(t, p, ins, ticks)
	if got := fmt.Sprint(logs); err != nil || logs == nil || got != want {
		t.Errorf("a run of %d ticks by %.80v: %.300s, %v, want %.300s", ticks, ins, got, err, want)
	}
	if slices.ContainsFunc(logs, func(log []int64) bool { return log == nil }) {
		t.Errorf("a run of %d ticks: a log is nil", ticks)
	}
}

// runsNot: a run that is refused.
func runsNot(t *testing.T, p *mill.Program, want error, ins [][]int64, ticks int) {
	t.Helper()
	if logs, err := run(t, p, ins, ticks); logs != nil || err != want {
		t.Errorf("a run of %d ticks by %.80v: %.80v, %v, want %v", ticks, ins, logs, err, want)
	}
}

func TestP8Example(t *testing.T) {
	p := compiled(t, "input x : int every 2; s : int = x + fby(0, s); u : int = under(s, 2); h : int = hold(7, u, 2) + s; output h;")
	ins := [][]int64{{1, 2, 3, 4, 5}}
	for _, ticks := range []int{9, 10} {
		runs(t, p, ins, ticks, "[[1 2 3 4 5] [1 3 6 10 15] [1 6 15] [8 10 7 11 21]]")
	}
	ins[0] = ins[0][:4]
	runs(t, p, ins, 8, "[[1 2 3 4] [1 3 6 10] [1 6] [8 10 7 11]]")
}

// Each tick beside the ones at which something has an instant.
func TestP8FewTicks(t *testing.T) {
	p := compiled(t, rates)
	x, b := []int64{5, 6, 7, 8}, []int64{1, 0, 1}
	for ticks, want := range []string{
		"[[] [] [] [] [] []]",
		"[[5] [1] [5] [5] [12] [1]]",
		"[[5] [1] [5] [5] [12] [1]]",
		"[[5 6] [1] [5 11] [5] [12 18] [1]]",
		"[[5 6] [1 0] [5 11] [5] [12 18] [1 1]]",
		"[[5 6 7] [1 0] [5 11 18] [5 18] [12 18 23] [1 1]]",
		"[[5 6 7] [1 0] [5 11 18] [5 18] [12 18 23] [1 1]]",
		"[[5 6 7 8] [1 0 1] [5 11 18 26] [5 18] [12 18 23 31] [1 1 0]]",
		"[[5 6 7 8] [1 0 1] [5 11 18 26] [5 18] [12 18 23 31] [1 1 0]]",
	} {
		runs(t, p, [][]int64{x[:(ticks+1)/2], b[:(ticks+2)/3]}, ticks, want)
	}
}

func TestP8TicksOutOfBounds(t *testing.T) {
	p := compiled(t, rates)
	for _, ticks := range []int{-1, -2, 2001, 2002, 4000, most, least, 1 << 32, -1 << 32} {
		for _, ins := range [][][]int64{
			nil, {}, {{}, {}}, {{1}, {1}}, {{1}, {2}}, {{1}}, {counted(1001), make([]int64, 667)}, {{1}, {1}, {1}},
		} {
			runsNot(t, p, mill.ErrFlow, ins, ticks)
		}
	}
	runs(t, p, make([][]int64, 2), 0, "[[] [] [] [] [] []]")
	logs, err := run(t, p, [][]int64{counted(1000), make([]int64, 667)}, 2000)
	if err != nil || len(logs) != 6 {
		t.Fatalf("a run of 2000 ticks: %d logs, %v", len(logs), err)
	}
	for flow, length := range []int{1000, 667, 1000, 500, 1000, 667} {
		if len(logs[flow]) != length {
			t.Errorf("flow %d has %d values in 2000 ticks", flow, len(logs[flow]))
		}
	}
	if s, u, h := logs[2][999], logs[3][499], logs[4][999]; s != 999*1000/2 || u != 998*999/2 || h != 996*997/2+s {
		t.Errorf("at the end s is %d, u %d, h %d", s, u, h)
	}
}

// The last ticks that may be: a flow of period 1 has an instant at each.
func TestP8TheLastTicks(t *testing.T) {
	p := compiled(t, "input x:int every 1;s:int=x+fby(0,s);u:int=under(s,1000);h:int=hold(-1,u,1000);")
	for ticks := 1998; ticks <= 2000; ticks++ {
		logs, err := run(t, p, [][]int64{counted(ticks)}, ticks)
		if err != nil || len(logs) != 4 || len(logs[1]) != ticks || len(logs[3]) != ticks {
			t.Fatalf("a run of %d ticks: %d logs, %v", ticks, len(logs), err)
		}
		last := int64(ticks - 1)
		if logs[1][last] != last*(last+1)/2 || fmt.Sprint(logs[2]) != "[0 500500]" || logs[3][999] != -1 || logs[3][last] != 0 {
			t.Errorf("a run of %d ticks: %d, %v, %d, %d", ticks, logs[1][last], logs[2], logs[3][999], logs[3][last])
		}
	}
}

func TestP8Lists(t *testing.T) {
	p := compiled(t, "input b:bool every 2;a:int=x;input x:int every 3;d:bool=not b;input c:bool every 1;")
	good := func() [][]int64 { return [][]int64{{1, 0, 1}, {most, least}, {0, 1, 1, 0, 1}} }
	const want = "[[1 0 1] [9223372036854775807 -9223372036854775808] [9223372036854775807 -9223372036854775808] [0 1 0] [0 1 1 0 1]]"
	runs(t, p, good(), 5, want)
	for list := range good() {
		for _, change := range []func([]int64) []int64{
			func(l []int64) []int64 { return nil },
			func(l []int64) []int64 { return []int64{} },
			func(l []int64) []int64 { return l[:len(l)-1] },
			func(l []int64) []int64 { return append(l, 0) },
			func(l []int64) []int64 { return append(l, 1, 1, 1, 1, 1) },
			func(l []int64) []int64 { return make([]int64, 5000) },
		} {
			ins := good()
			ins[list] = change(ins[list])
			runsNot(t, p, mill.ErrInputs, ins, 5)
		}
		for at := range good()[list] {
			for _, wrong := range []int64{2, -1, most, least, 256, 1 << 32} {
				ins := good()
				if ins[list][at] = wrong; list == 1 {
					if _, err := run(t, p, ins, 5); err != nil {
						t.Errorf("an int that is %d: %v", wrong, err)
					}
					continue
				}
				runsNot(t, p, mill.ErrInputs, ins, 5)
			}
		}
	}
	for _, ins := range [][][]int64{
		nil, {}, good()[:1], good()[:2], append(good(), nil), append(good(), []int64{}), append(good(), []int64{0, 1}),
		good()[1:], append([][]int64{nil}, good()...), make([][]int64, 100),
	} {
		runsNot(t, p, mill.ErrInputs, ins, 5)
	}
	for _, ticks := range []int{0, 1, 2, 3, 4, 6, 7, 10, 2000} {
		runsNot(t, p, mill.ErrInputs, good(), ticks)
	}
}

func TestP8NoTicks(t *testing.T) {
	p := compiled(t, rates)
	for _, ins := range [][][]int64{{nil, nil}, {{}, {}}, {nil, {}}} {
		runs(t, p, ins, 0, "[[] [] [] [] [] []]")
	}
	for _, ins := range [][][]int64{nil, {}, {nil}, {nil, nil, nil}, {{1}, nil}, {nil, {1}}, {nil, {2}}} {
		runsNot(t, p, mill.ErrInputs, ins, 0)
	}
}

// Without flows there are no inputs, and the other way round: an equation has
// its period by one.
func TestP8NoFlowsOrNoEquations(t *testing.T) {
	for _, p := range []*mill.Program{{}, compiled(t, ""), compiled(t, "# nothing")} {
		for _, ticks := range []int{0, 1, 7, 2000} {
			runs(t, p, nil, ticks, "[]")
			runs(t, p, [][]int64{}, ticks, "[]")
			for _, ins := range [][][]int64{{nil}, {{}}, {{1}}, {counted(ticks)}} {
				runsNot(t, p, mill.ErrInputs, ins, ticks)
			}
		}
		runsNot(t, p, mill.ErrFlow, nil, -1)
		runsNot(t, p, mill.ErrFlow, nil, 2001)
	}
	p := compiled(t, "input x:int every 1;output x;input b:bool every 2;")
	runs(t, p, [][]int64{{3, 4, 5}, {1, 0}}, 3, "[[3 4 5] [1 0]]")
	runs(t, p, [][]int64{nil, nil}, 0, "[[] []]")
	runsNot(t, p, mill.ErrInputs, [][]int64{{3, 4, 5}, {1}}, 3)
	runsNot(t, p, mill.ErrInputs, [][]int64{{3, 4, 5}, {1, 2}}, 3)
	runsNot(t, p, mill.ErrInputs, nil, 3)
}

func TestP8NoProgram(t *testing.T) {
	var none *mill.Program
	for _, ticks := range []int{-1, 0, 1, 2001} {
		runsNot(t, none, mill.ErrFlow, nil, ticks)
	}
}

// Periods greater than the ticks: instant 0 is there from the first tick on.
func TestP8LongPeriods(t *testing.T) {
	p := compiled(t, "input x:int every 1000;input y:int every 1000000;a:int=under(x,1000)+y;c:int=hold(5,a,1000)*x;d:int=hold(6,x,500);")
	runs(t, p, [][]int64{nil, nil}, 0, "[[] [] [] [] []]")
	runs(t, p, [][]int64{{3}, {4}}, 1, "[[3] [4] [7] [15] [6]]")
	runs(t, p, [][]int64{{3}, {4}}, 5, "[[3] [4] [7] [15] [6 6 6]]")
	runsNot(t, p, mill.ErrInputs, [][]int64{{3}, nil}, 1)
	runsNot(t, p, mill.ErrInputs, [][]int64{{3, 3}, {4}}, 1000)
	runsNot(t, p, mill.ErrInputs, [][]int64{{3}, {4, 4}}, 1000)
	runsNot(t, p, mill.ErrInputs, [][]int64{{3}, {4}}, 1001)
	logs, err := run(t, p, [][]int64{{3, 4}, {4}}, 1001)
	if err != nil || len(logs) != 5 || fmt.Sprint(logs[:4]) != "[[3 4] [4] [7] [15 20]]" || len(logs[4]) != 501 || logs[4][499] != 6 || logs[4][500] != 3 {
		t.Errorf("a run of 1001 ticks: %.80v, %v", logs, err)
	}
}

// A task that waits for another, that waits for a third one, and in the text
// ahead of them; a wait in the middle of a job; a name behind two unders.
func TestP8WaitsThroughUnder(t *testing.T) {
	p := compiled(t, "g:int=under(f,3);f:int=e+1;e:int=c+under(d,2);c:int=under(x,2);d:int=x+a;a:int=x*2;w:int=under(under(d+a,2)-e,3);input x:int every 1;")
	runs(t, p, [][]int64{{3, 4, 5, 6, 7, 8, 9}}, 7,
		"[[13 37] [13 21 29 37] [12 20 28 36] [3 5 7 9] [9 12 15 18 21 24 27] [6 8 10 12 14 16 18] [3 9] [3 4 5 6 7 8 9]]")
	// each rate waits for the next one, and none for all
	p = compiled(t, chain("x", "under(?,2)+1", 11))
	logs, err := run(t, p, [][]int64{counted(2000)}, 2000)
	if err != nil || len(logs) != 12 {
		t.Fatalf("eleven rates: %d logs, %v", len(logs), err)
	}
	for k := range int64(11) {
		for n, v := range logs[k+1] {
			if v != int64(n)<<k+k {
				t.Fatalf("f%d at %d is %d", k, n, v)
			}
		}
	}
}

// fby and hold ask for what was ahead, however far others have come.
func TestP8HoldAndFby(t *testing.T) {
	p := compiled(t, "input x:int every 1;u:int=under(x,2);h:int=hold(7,u,2);f:int=fby(8,x);g:int=under(fby(9,x),2);k:int=hold(1,under(h,4),4)+fby(0,k);")
	runs(t, p, [][]int64{{10, 11, 12, 13, 14, 15}}, 6,
		"[[10 11 12 13 14 15] [10 12 14] [7 7 10 10 12 12] [8 10 11 12 13 14] [9 11 13] [1 2 3 4 11 18]]")
}

// Two rates of which each is made of what the other one was.
func TestP8RatesThatHangOnEachOther(t *testing.T) {
	p := compiled(t, "input x:int every 1;a:int=x+hold(0,c,3);c:int=under(a,3)*2;")
	runs(t, p, [][]int64{{1, 1, 1, 1, 1, 1, 1}}, 7, "[[1 1 1 1 1 1 1] [1 1 1 3 3 3 7] [2 6 14]]")
}

// As package plain sees it.
func TestP8FaultsFromOutside(t *testing.T) {
	p := compiled(t, "input b:bool every 2;a:bool=not b;")
	for _, c := range []struct {
		ins   [][]int64
		ticks int
		logs  string
		want  plain.Fault
	}{
		{[][]int64{{1, 0}}, 3, "[[1 0] [0 1]]", plain.Fault{}},
		{[][]int64{nil}, 0, "[[] []]", plain.Fault{}},
		{[][]int64{{1, 0}}, -1, "[]", plain.Fault{E: 11, At: -1}},
		{nil, 2001, "[]", plain.Fault{E: 11, At: -1}},
		{nil, 3, "[]", plain.Fault{E: 12, At: -1}},
		{[][]int64{{1, 2}}, 3, "[]", plain.Fault{E: 12, At: -1}},
	} {
		logs, f := plain.Run(p, c.ins, c.ticks)
		if fmt.Sprint(logs) != c.logs || f != c.want || (logs == nil) != (c.want.E != 0) {
			t.Errorf("Run(%v, %d): %v, %v, want %s, %v", c.ins, c.ticks, logs, f, c.logs, c.want)
		}
	}
}

// An answer shares nothing with what was handed in, nor with itself.
func TestP1RunKeepsNothingOfOthers(t *testing.T) {
	p := compiled(t, "input x:int every 1;input y:int every 1;a:int=x;c:int=a+y;u:int=under(c,2);")
	row := []int64{5, 6, 7, 77, 77}
	ins := [][]int64{row[:3], row[:3], {99}}
	const want = "[[5 6 7] [5 6 7] [5 6 7] [10 12 14] [10 14]]"
	first, err := run(t, p, ins[:2], 3)
	if fmt.Sprint(first) != want || err != nil {
		t.Fatalf("%v, %v", first, err)
	}
	for flow, log := range first {
		log = log[:cap(log)]
		for n := range log {
			log[n] = int64(-1 - flow)
		}
		_ = append(first[flow], 98, 97, 96)
	}
	if got := fmt.Sprint(first); got != "[[-1 -1 -1] [-2 -2 -2] [-3 -3 -3] [-4 -4 -4] [-5 -5]]" {
		t.Errorf("lists of one answer share memory: %s", got)
	}
	_ = append(first, nil)
	if got := fmt.Sprint(row, ins, len(ins[0])); got != "[5 6 7 77 77] [[5 6 7] [5 6 7] [99]] 3" {
		t.Errorf("what was handed in is now %s", got)
	}
	second, _ := run(t, p, ins[:2], 3)
	clear(row)
	clear(ins)
	if got := fmt.Sprint(second); got != want {
		t.Errorf("a second run, when what was handed in has changed: %s", got)
	}
}

// A run is told by what it was given alone: not by runs or machines ahead of
// it, and neither by what is done with what the program tells.
func TestP1RunsDoNotKnowOfOneAnother(t *testing.T) {
	p := compiled(t, rates)
	m := p.Machine()
	ticks(t, m, 9, 0)
	pickAll(t, m, 3)
	for range 3 {
		runs(t, p, [][]int64{{5, 6}, {1}}, 3, "[[5 6] [1] [5 11] [5] [12 18] [1]]")
		runs(t, p, [][]int64{{1}, {0}}, 1, "[[1] [0] [1] [1] [8] [0]]")
		runsNot(t, p, mill.ErrInputs, [][]int64{{1}, {2}}, 1)
		for _, task := range p.Tasks() {
			clear(task.Order)
		}
		clear(p.Flows())
	}
	sees(t, m, "1 [9] [0] [9] [9] [16] [0]")
}

// settles: whether there are no more goroutines than before, soon: one that
// has told that it has ended may be counted for a moment still.
func settles(before int) bool {
	for range 1000 {
		if runtime.NumGoroutine() <= before {
			return true
		}
		time.Sleep(time.Millisecond)
	}
	return false
}

func TestP8NoGoroutineIsLeft(t *testing.T) {
	p := compiled(t, bothWays)
	for _, c := range []struct {
		x, y  int
		ticks int
		err   error
	}{
		{15, 10, 30, nil}, {0, 0, 0, nil}, {1, 1, 1, nil}, {15, 10, 29, nil}, {1000, 667, 2000, nil},
		{15, 11, 30, mill.ErrInputs}, {14, 10, 30, mill.ErrInputs}, {15, 10, -1, mill.ErrFlow}, {15, 10, 2001, mill.ErrFlow},
	} {
		before := runtime.NumGoroutine()
		for range 10 {
			if _, err := run(t, p, [][]int64{counted(c.x), make([]int64, c.y)}, c.ticks); err != c.err {
				t.Fatalf("a run of %d ticks: %v, want %v", c.ticks, err, c.err)
			}
		}
		if !settles(before) {
			t.Errorf("runs of %d ticks: %d goroutines before, %d behind", c.ticks, before, runtime.NumGoroutine())
		}
	}
}

// Runs at the same time, and on one processor or many.
func TestP1RunsByGoroutines(t *testing.T) {
	p := compiled(t, bothWays)
	ins := [][]int64{counted(100), make([]int64, 67)}
	for n := range ins[1] {
		ins[1][n] = int64(n*n/3) % 2
	}
	first, err := run(t, p, ins, 200)
	if err != nil {
		t.Fatal(err)
	}
	want := fmt.Sprint(first)
	before := runtime.GOMAXPROCS(0)
	defer runtime.GOMAXPROCS(before)
	for _, processors := range []int{1, 2, 3, 16} {
		runtime.GOMAXPROCS(processors)
		var all sync.WaitGroup
		for range 8 {
			all.Go(func() {
				for range 10 {
					if logs, err := p.Run(ins, 200); fmt.Sprint(logs) != want || err != nil {
						t.Errorf("another answer: %v", err)
					}
				}
			})
		}
		all.Wait()
	}
}

// Eighteen rates, of which the fastest one holds what the others were.
func TestP8HoldsOfManyTasks(t *testing.T) {
	var text strings.Builder
	text.WriteString("input x:int every 1;")
	factors := []int{2, 3, 4, 5, 6, 8, 9, 10, 12, 15, 18, 20, 24, 30, 40, 60, 100}
	for i, k := range factors {
		fmt.Fprintf(&text, "a%d:int=under(x,%d)+fby(0,a%d);c%d:int=hold(0,a%d,%d)+x;", i, k, i, i, i, k)
	}
	p := compiled(t, text.String())
	logs, err := run(t, p, [][]int64{counted(2000)}, 2000)
	if err != nil || len(logs) != 1+2*len(factors) || len(p.Tasks()) != 1+len(factors) {
		t.Fatalf("%d logs, %d tasks, %v", len(logs), len(p.Tasks()), err)
	}
	for i, k := range factors {
		sums, held := logs[1+2*i], logs[2+2*i]
		for n, v := range sums {
			if v != int64(k*n*(n+1)/2) {
				t.Fatalf("a%d at %d is %d", i, n, v)
			}
		}
		for n, v := range held {
			want := int64(n)
			if n >= k {
				want += sums[n/k-1]
			}
			if v != want {
				t.Fatalf("c%d at %d is %d, want %d", i, n, v, want)
			}
		}
	}
}

// About as many tasks as 600 tokens can have, and as many equations in one.
func TestP8ManyTasksOrEquations(t *testing.T) {
	text, factors := "input x:int every 1;", []int{}
	for k := 2; len(factors) < 53; k++ {
		if 720720%k == 0 {
			text += fmt.Sprintf("a%d:int=under(x,%d);", k, k)
			factors = append(factors, k)
		}
	}
	p := compiled(t, text)
	logs, err := run(t, p, [][]int64{counted(2000)}, 2000)
	if err != nil || len(logs) != 54 || len(p.Tasks()) != 53 {
		t.Fatalf("%d logs, %d tasks, %v", len(logs), len(p.Tasks()), err)
	}
	for i, k := range factors {
		if last := int64(1999 / k); int64(len(logs[1+i])) != last+1 || logs[1+i][last] != last*int64(k) {
			t.Errorf("the log of a%d: %v", k, logs[1+i])
		}
	}
	p = compiled(t, chain("x", "?+1", 59))
	logs, err = run(t, p, [][]int64{counted(2000)}, 2000)
	if err != nil || len(logs) != 60 || logs[59][1999] != 1999+58 {
		t.Errorf("a chain: %d logs, %v", len(logs), err)
	}
}

// spoilt: lists that do not fit: a value or a list too few or too many, or a
// bool that is none.
func spoilt(r *rand.Rand, p *mill.Program, ins [][]int64) [][]int64 {
	var bools []int
	for _, f := range p.Flows() {
		if f.Input {
			bools = append(bools, f.Type)
		}
	}
	out := [][]int64{}
	for _, list := range ins {
		out = append(out, slices.Clone(list))
	}
	at := r.Intn(len(ins))
	switch kind := r.Intn(5); {
	case kind == 0 && len(out[at]) > 0:
		out[at] = out[at][1:]
	case kind == 1:
		out[at] = append(out[at], 1)
	case kind == 2:
		out = slices.Delete(out, at, at+1)
	case kind == 3 && bools[at] == 1 && len(out[at]) > 0:
		out[at][r.Intn(len(out[at]))] = []int64{2, -1, most}[r.Intn(3)]
	default:
		out = append(out, []int64{})
	}
	return out
}

// asMeant tells where logs differ from what the second meaning has.
func (m *steps) asMeant(logs [][]int64, ticks int) error {
	if len(logs) != len(m.decl) {
		return fmt.Errorf("%d logs", len(logs))
	}
	for flow, log := range logs {
		m.count[flow] = (ticks + m.period(flow) - 1) / m.period(flow)
		if want := m.log(flow); !slices.EqualFunc(log, want, func(a int64, b *big.Int) bool { return b != nil && b.Cmp(big.NewInt(a)) == 0 }) {
			return fmt.Errorf("the log of %s: %v, want %v", m.name(flow), log, want)
		}
	}
	return nil
}

// P8, P11: of made-up programs, by the second meaning.
func TestP8AsTheSecondMeaningHasIt(t *testing.T) {
	r := rand.New(rand.NewSource(8))
	waits, holds := 0, 0
	for round := range 4000 {
		text, s := madeUp(r, 0)
		if round%2 == 0 {
			text, s = woven(r)
		}
		p, err := mill.Compile(text)
		if _, wrong, _ := s.compile(); wrong != nil || err != nil {
			continue // P4's test looks after these
		}
		ticks := []int{0, 1, 2, r.Intn(10), r.Intn(60), r.Intn(300)}[r.Intn(6)]
		m := newSteps(r, s, ticks)
		ins := m.inputs()
		logs, err := run(t, p, ins, ticks)
		if err == nil {
			err = m.asMeant(logs, ticks)
		}
		if err != nil {
			t.Fatalf("%q by %v, %d ticks: %v", text, ins, ticks, err)
		}
		if again := m.inputs(); !slices.EqualFunc(ins, again, slices.Equal) {
			t.Fatalf("%q: the lists have changed", text)
		}
		runsNot(t, p, mill.ErrInputs, spoilt(r, p, ins), ticks)
		if len(p.Tasks()) > 2 && ticks > 10 {
			waits += min(1, strings.Count(text, "under"))
			holds += min(1, strings.Count(text, "hold"))
		}
	}
	if waits < 300 || holds < 300 {
		t.Errorf("too few of a kind: %d with under, %d with hold", waits, holds)
	}
}

// P8, P11: a machine that is picked until nothing is busy tells the same.
func TestP8AsTheMachineHasIt(t *testing.T) {
	p := compiled(t, bothWays)
	m := p.Machine()
	ins := make([][]int64, 2)
	for tick := range 400 {
		if tick%2 == 0 {
			ins[0] = append(ins[0], int64(tick*tick%31-15))
		}
		if tick%3 == 0 {
			ins[1] = append(ins[1], int64(tick*tick/7%2))
		}
		var now []int64
		for i, every := range []int{2, 3} {
			if tick%every == 0 {
				now = append(now, ins[i][tick/every])
			}
		}
		ticks(t, m, now...)
		pickAll(t, m, len(p.Tasks()))
		if tick%37 != 0 && tick < 390 {
			continue
		}
		logs := make([][]int64, len(p.Flows()))
		for flow := range logs {
			logs[flow] = m.Log(flow)
		}
		runs(t, p, ins, tick+1, fmt.Sprint(logs))
	}
}
