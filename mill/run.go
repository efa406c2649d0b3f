package mill

import "sync"

// mostTicks is how far a run may go.
const mostTicks = 2000

// Run: P8.
func (p *Program) Run(ins [][]int64, ticks int) ([][]int64, error) {
	if p == nil || ticks < 0 || ticks > mostTicks {
		return nil, ErrFlow
	}
	given, fit := p.logsOf(ins)
	if !fit || !p.lastJust(given, ticks) {
		return nil, ErrInputs
	}
	c := newCrew(p, given, ticks)
	c.carryOut(ticks)
	return c.logs, nil
}

// lastJust tells whether the inputs' values are neither too few nor too many
// for so many ticks.
func (p *Program) lastJust(given [][]int64, ticks int) bool {
	for i, flow := range p.flows {
		if flow.Input && len(given[i]) != instantsIn(ticks, flow.Period) {
			return false
		}
	}
	return true
}

func instantsIn(ticks, period int) int { return (ticks + period - 1) / period }

// crew carries a program out, each task by a worker of its own. The logs have
// their full length from the start, the inputs' values in them: so no list
// grows that another worker reads, and each value is written once, by one
// worker, to a place that nobody reads ahead of the end of that worker's job.
type crew struct {
	program *Program
	logs    [][]int64
	workers []*worker
	byFlow  []*worker
}

// worker is told the instants of its jobs by a channel. Each job has a channel
// of its own that is closed at the job's end: so any number of others can wait
// for that, and whoever comes later does not wait.
type worker struct {
	task Task
	jobs chan int
	ends []chan struct{}
}

func newCrew(p *Program, given [][]int64, ticks int) *crew {
	c := &crew{program: p, logs: make([][]int64, len(p.flows)), byFlow: make([]*worker, len(p.flows))}
	for i, flow := range p.flows {
		c.logs[i] = make([]int64, instantsIn(ticks, flow.Period))
		copy(c.logs[i], given[i])
	}
	for _, task := range p.tasks {
		w := newWorker(task, ticks)
		c.workers = append(c.workers, w)
		for _, flow := range task.Order {
			c.byFlow[flow] = w
		}
	}
	return c
}

func newWorker(task Task, ticks int) *worker {
	w := &worker{task: task, jobs: make(chan int), ends: make([]chan struct{}, instantsIn(ticks, task.Period))}
	for i := range w.ends {
		w.ends[i] = make(chan struct{})
	}
	return w
}

// carryOut is the clock: it comes back when all workers have gone home.
func (c *crew) carryOut(ticks int) {
	var all sync.WaitGroup
	all.Add(len(c.workers))
	for _, w := range c.workers {
		go func() {
			defer all.Done()
			c.work(w)
		}()
	}
	for tick := range ticks {
		c.tick(tick)
	}
	for _, w := range c.workers {
		close(w.jobs)
	}
	all.Wait()
}

// tick waits for all jobs that it would overrun ahead of handing out the first
// new one.
func (c *crew) tick(tick int) {
	due := c.dueAt(tick)
	for _, w := range due {
		w.awaitJobAhead(tick)
	}
	for _, w := range due {
		w.jobs <- w.instantAt(tick)
	}
}

func (c *crew) dueAt(tick int) []*worker {
	var due []*worker
	for _, w := range c.workers {
		if tick%w.task.Period == 0 {
			due = append(due, w)
		}
	}
	return due
}

func (w *worker) instantAt(tick int) int { return tick / w.task.Period }

func (w *worker) awaitJobAhead(tick int) {
	if instant := w.instantAt(tick); instant > 0 {
		<-w.ends[instant-1]
	}
}

func (c *crew) work(w *worker) {
	values := c.valuesFor(w)
	for instant := range w.jobs {
		for _, flow := range w.task.Order {
			c.logs[flow][instant], _ = c.program.worths[flow](values, int64(instant))
		}
		close(w.ends[instant])
	}
}

// valuesFor is a worker's source: it waits for the end of the job by which
// another worker gives a value. No two wait for each other: only through under
// is a job asked for that may not have ended, and that one has the same tick
// and a shorter period; what fby and hold ask for has ended ahead of the tick.
func (c *crew) valuesFor(own *worker) source {
	return func(flow int, instant int64) (int64, bool) {
		if other := c.byFlow[flow]; other != nil && other != own {
			<-other.ends[instant]
		}
		return c.logs[flow][instant], true
	}
}
