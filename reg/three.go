package reg

import "sync/atomic"

const (
	noneFresh  = 3 // in the place of a buffer's number
	allNumbers = 0 + 1 + 2
)

// threeBuffers is kind 2. What is shared beside the buffers is one word: which
// buffer is fresh, or that none is. So two change places by one Swap, and no
// look ahead of it is needed, that the other could make untrue. A middle one
// that is not fresh need not be told: the reader does not want it, and the
// writer knows it, as the one that neither has: the reader took what was given.
type threeBuffers struct {
	fresh   atomic.Uint32
	buffers [3][]uint64
	writers uint32
	given   uint32 // the writer's alone, too: what it made fresh last
	readers uint32
}

func newThreeBuffers(first []uint64) *threeBuffers {
	t := &threeBuffers{writers: 0, given: 2, readers: 2}
	t.fresh.Store(noneFresh)
	for i := range t.buffers {
		t.buffers[i] = make([]uint64, len(first))
	}
	copy(t.buffers[t.readers], first)
	return t
}

func (t *threeBuffers) write(done int, payload []uint64) bool {
	if done < len(payload) {
		t.buffers[t.writers][done] = payload[done]
		return false
	}
	t.give()
	return true
}

func (t *threeBuffers) give() {
	middle := t.fresh.Swap(t.writers)
	if middle == noneFresh {
		middle = allNumbers - t.writers - t.given
	}
	t.given, t.writers = t.writers, middle
}

func (t *threeBuffers) read(done int, payload []uint64) bool {
	if done == 0 {
		t.take()
		return false
	}
	word := done - 1
	payload[word] = t.buffers[t.readers][word]
	return done == len(payload)
}

func (t *threeBuffers) take() {
	if fresh := t.fresh.Swap(noneFresh); fresh != noneFresh {
		t.readers = fresh
	}
}
