package reg_test

import (
	"runtime"
	"sync"
	"sync/atomic"
	"testing"
)

// seen is what the two goroutines of a test tell each other of the register.
type seen struct {
	begun, ended atomic.Int64
}

// One goroutine writes and another one reads, as fast as they can: whatever
// comes of it, it is what the document says of payloads.
func TestP11TwoGoroutines(t *testing.T) {
	eachRegister(func(kind, width int) {
		many := 200 + 100000/width
		r := made(t, kind, width)
		var s seen
		var both sync.WaitGroup
		both.Go(func() { s.writeAll(t, r, kind, width, many) })
		both.Go(func() { s.readAll(t, r, kind, width, many) })
		both.Wait()
		if n := reads(t, r, kind, width); n != many {
			t.Errorf("kind %d, width %d: payload %d is read at last, not %d", kind, width, n, many)
		}
	})
}

func (s *seen) writeAll(t *testing.T, r register, kind, width, many int) {
	steps, _ := stepsOf(kind, width)
	for n := 1; n <= many; n++ {
		s.begun.Store(int64(n))
		if err := r.Write(payload(n, width)); err != nil {
			t.Errorf("kind %d, width %d: Write: %v", kind, width, err)
			return
		}
		for step := 1; step <= steps; step++ {
			breathe(n + step)
			if over, err := r.StepWrite(); err != nil || over != (step == steps) {
				t.Errorf("kind %d, width %d: StepWrite %d: %t, %v", kind, width, step, over, err)
				return
			}
		}
		s.ended.Store(int64(n))
	}
}

func (s *seen) readAll(t *testing.T, r register, kind, width, many int) {
	_, steps := stepsOf(kind, width)
	last := 0
	for turn := range many {
		least := max(last, int(s.ended.Load()))
		if err := r.Read(); err != nil {
			t.Errorf("kind %d, width %d: Read: %v", kind, width, err)
			return
		}
		for step := 1; step <= steps; step++ {
			breathe(turn*2 + step)
			over, words, err := r.StepRead()
			if err != nil || over != (step == steps) {
				t.Errorf("kind %d, width %d: StepRead %d: %t, %v", kind, width, step, over, err)
				return
			}
			if !over {
				continue
			}
			last = numberOf(words, width)
			if most := int(s.begun.Load()); last < least || last > most {
				t.Errorf("kind %d, width %d: %v is read, payload %d, not one from %d to %d", kind, width, words, last, least, most)
				return
			}
		}
	}
}

// breathe lets the other one go on now and then, so that their steps are mixed
// where there is but one processor, too.
func breathe(n int) {
	if n%7 == 0 {
		runtime.Gosched()
	}
}
