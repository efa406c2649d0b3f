package mill

import (
	"bytes"
	"fmt"
	"runtime"
	"sync"
	"testing"
	"time"
)

// These tests lay something around each equation of a program, so that it is
// seen who works it out, and when.

// watched: a program whose equations do something ahead of being worked out,
// and something behind.
func watched(t *testing.T, text string, ahead, behind func(flow int, instant int64)) *Program {
	t.Helper()
	p, err := Compile(text)
	if err != nil {
		t.Fatal(err)
	}
	for flow, work := range p.worths {
		if work == nil {
			continue
		}
		p.worths[flow] = func(from source, instant int64) (int64, bool) {
			ahead(flow, instant)
			value, there := work(from, instant)
			behind(flow, instant)
			return value, there
		}
	}
	return p
}

func nothingMore(int, int64) {}

// zeros: lists that just fit.
func zeros(p *Program, ticks int) [][]int64 {
	var ins [][]int64
	for _, flow := range p.flows {
		if flow.Input {
			ins = append(ins, make([]int64, instantsIn(ticks, flow.Period)))
		}
	}
	return ins
}

// dawdle lets others go ahead, one time more, the other time less.
func dawdle(flow int, instant int64) {
	for range (int64(flow)*7 + instant*5) % 11 * 3 {
		runtime.Gosched()
	}
	if (int64(flow)+instant)%5 == 0 {
		time.Sleep(50 * time.Microsecond)
	}
}

// who: by what a goroutine is told from others.
func who() string {
	row := make([]byte, 64)
	row = row[:runtime.Stack(row, false)]
	return string(bytes.Fields(row)[1])
}

// ratesOf: four tasks, of which each asks for what others are or were; its
// equations are the flows from 3 to 9.
func ratesOf(t *testing.T, ahead, behind func(flow int, instant int64)) *Program {
	t.Helper()
	const text = `input x:int every 1;input y:int every 2;input z:int every 3;
		a:int=x+hold(0,c,2);d:int=hold(1,e,3)+a;c:int=under(d,2)+fby(3,c)+y;
		f:int=y+c;e:int=under(a,3)+z;g:int=under(f,3)+under(e,2);h:int=g+1;`
	return watched(t, text, ahead, behind)
}

func TestP8EachTaskByAGoroutineOfItsOwn(t *testing.T) {
	var lock sync.Mutex
	seen := map[int]map[string]int{}
	p := ratesOf(t, func(flow int, instant int64) {
		lock.Lock()
		defer lock.Unlock()
		if seen[flow] == nil {
			seen[flow] = map[string]int{}
		}
		seen[flow][who()]++
	}, nothingMore)
	if _, err := p.Run(zeros(p, 60), 60); err != nil {
		t.Fatal(err)
	}
	workers := map[string]int{who(): -1}
	for number, task := range p.tasks {
		for _, flow := range task.Order {
			if len(seen[flow]) != 1 {
				t.Errorf("flow %d is worked out by %d goroutines", flow, len(seen[flow]))
			}
			for name := range seen[flow] {
				if other, met := workers[name]; met && other != number {
					t.Errorf("tasks %d and %d have one goroutine", other, number)
				}
				workers[name] = number
			}
		}
	}
	if len(workers) != 1+len(p.tasks) {
		t.Errorf("%d goroutines for %d tasks", len(workers)-1, len(p.tasks))
	}
}

// Tasks of which none needs another meet in the middle of their first jobs.
func TestP8TasksGoAtTheSameTime(t *testing.T) {
	var all sync.WaitGroup
	all.Add(4)
	met := make(chan struct{})
	go func() {
		all.Wait()
		close(met)
	}()
	p := watched(t, "input x:int every 1;a:int=x;c:int=under(x,2);d:int=under(x,3);e:int=under(x,7);", func(flow int, instant int64) {
		if instant > 0 {
			return
		}
		all.Done()
		select {
		case <-met:
		case <-time.After(20 * time.Second):
			t.Errorf("flow %d has met nobody", flow)
		}
	}, nothingMore)
	if _, err := p.Run(zeros(p, 5), 5); err != nil {
		t.Fatal(err)
	}
}

// moves: what was worked out, in that order: a flow's instant, begun or ended.
type moves struct {
	lock sync.Mutex
	all  []move
}

type move struct {
	flow, instant int
	ended         bool
}

func (m *moves) add(flow int, instant int64, ended bool) {
	m.lock.Lock()
	defer m.lock.Unlock()
	m.all = append(m.all, move{flow, int(instant), ended})
}

// tooEarly: a job that has begun ahead of the end of another that its tick
// would overrun, or an equation that was not worked out in its turn.
func (m *moves) tooEarly(p *Program) error {
	begun, ended := make([]int, len(p.flows)), make([]int, len(p.flows))
	for _, now := range m.all {
		if now.ended {
			ended[now.flow]++
			continue
		}
		if now.instant != begun[now.flow] || ended[now.flow] != begun[now.flow] {
			return fmt.Errorf("flow %d at %d, when %d had begun and %d ended", now.flow, now.instant, begun[now.flow], ended[now.flow])
		}
		begun[now.flow]++
		tick := now.instant * p.flows[now.flow].Period
		for other, f := range p.flows {
			if !f.Input && tick%f.Period == 0 && ended[other] < tick/f.Period {
				return fmt.Errorf("tick %d, when flow %d of period %d had ended %d times", tick, other, f.Period, ended[other])
			}
		}
	}
	return nil
}

func TestP8NoTickAheadOfWhatItWouldOverrun(t *testing.T) {
	for _, dawdler := range []int{-1, 3, 4, 5, 6, 7, 8, 9} {
		var m moves
		p := ratesOf(t, func(flow int, instant int64) {
			m.add(flow, instant, false)
			if flow == dawdler || dawdler < 0 {
				dawdle(flow, instant)
			}
		}, func(flow int, instant int64) {
			if flow == dawdler {
				time.Sleep(100 * time.Microsecond)
			}
			m.add(flow, instant, true)
		})
		if _, err := p.Run(zeros(p, 80), 80); err != nil {
			t.Fatal(err)
		}
		if err := m.tooEarly(p); err != nil {
			t.Fatalf("flow %d dawdles: %v", dawdler, err)
		}
		count := 0
		for _, f := range p.flows[3:] {
			count += 2 * instantsIn(80, f.Period)
		}
		if len(m.all) != count {
			t.Errorf("flow %d dawdles: %d moves, want %d", dawdler, len(m.all), count)
		}
	}
}

// The same answer, whoever dawdles.
func TestP8HoweverGoroutinesRun(t *testing.T) {
	var ins [][]int64
	plainly := ratesOf(t, nothingMore, nothingMore)
	for i, list := range zeros(plainly, 70) {
		for n := range list {
			list[n] = int64(n*n%(11+i) - 3)
		}
		ins = append(ins, list)
	}
	logs, err := plainly.Run(ins, 70)
	if err != nil {
		t.Fatal(err)
	}
	for flow, log := range logs {
		for n, v := range log {
			if want, err := plainly.Meaning(flow, ins, n); v != want || err != nil {
				t.Fatalf("flow %d at %d: %d, want %d, %v", flow, n, v, want, err)
			}
		}
	}
	for dawdler := 3; dawdler < 10; dawdler++ {
		lazy := func(flow int, instant int64) {
			if flow == dawdler || (flow+int(instant))%4 == 0 {
				dawdle(flow, instant)
			}
		}
		for _, p := range []*Program{ratesOf(t, lazy, nothingMore), ratesOf(t, nothingMore, lazy)} {
			again, err := p.Run(ins, 70)
			if fmt.Sprint(again) != fmt.Sprint(logs) || err != nil {
				t.Errorf("flow %d dawdles: %v, %v, want %v", dawdler, again, err, logs)
			}
		}
	}
}

// The last jobs of all tasks have ended when Run answers, how long they take.
func TestP8AllHaveEnded(t *testing.T) {
	for ticks := 1; ticks < 8; ticks++ {
		var m moves
		p := ratesOf(t, nothingMore, func(flow int, instant int64) {
			if flow > 5 || ticks < 3 {
				time.Sleep(2 * time.Millisecond)
			}
			m.add(flow, instant, true)
		})
		if _, err := p.Run(zeros(p, ticks), ticks); err != nil {
			t.Fatal(err)
		}
		m.lock.Lock()
		got, want := len(m.all), 0
		m.lock.Unlock()
		for _, f := range p.flows[3:] {
			want += instantsIn(ticks, f.Period)
		}
		if got != want {
			t.Errorf("%d ticks: %d values when Run answers, want %d", ticks, got, want)
		}
	}
}

// A run that is refused works nothing out.
func TestP8RefusedAheadOfAllJobs(t *testing.T) {
	p := ratesOf(t, func(flow int, instant int64) { t.Errorf("flow %d at %d", flow, instant) }, nothingMore)
	ins := zeros(p, 6)
	ins[2] = ins[2][:1]
	for _, ticks := range []int{-1, 6, 2001} {
		if logs, err := p.Run(ins, ticks); logs != nil || err == nil {
			t.Errorf("a run of %d ticks: %v", ticks, logs)
		}
	}
}
