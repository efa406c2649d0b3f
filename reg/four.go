package reg

import "sync/atomic"

// The small steps ahead of the first word.
const (
	aheadOfWriting = 2
	aheadOfReading = 3
)

// fourSlots is kind 1: two pairs of two slots. A slot's words need not be atomic:
// the writer keeps out of the pair that is being read; and where the reader came
// to the writer's pair behind that look, each is in another slot of it: the pair's
// word does not name the writer's slot ahead of that writing's last word.
type fourSlots struct {
	latest  atomic.Uint32
	reading atomic.Uint32
	slot    [2]atomic.Uint32
	words   [2][2][]uint64
	writers place
	readers place
}

// place is a slot that one of the two has chosen; the other does not see it.
type place struct {
	pair, slot uint32
}

func newFourSlots(first []uint64) *fourSlots {
	f := &fourSlots{}
	for pair := range f.words {
		for slot := range f.words[pair] {
			f.words[pair][slot] = make([]uint64, len(first))
		}
	}
	copy(f.words[0][0], first)
	return f
}

func (f *fourSlots) at(p place) []uint64 { return f.words[p.pair][p.slot] }

func (f *fourSlots) write(done int, payload []uint64) bool {
	own, word := &f.writers, done-aheadOfWriting
	switch {
	case done == 0:
		own.pair = 1 - f.reading.Load()
	case done == 1:
		own.slot = 1 - f.slot[own.pair].Load()
	case word < len(payload):
		f.at(*own)[word] = payload[word]
	case word == len(payload):
		f.slot[own.pair].Store(own.slot)
	default:
		f.latest.Store(own.pair)
		return true
	}
	return false
}

func (f *fourSlots) read(done int, payload []uint64) bool {
	own, word := &f.readers, done-aheadOfReading
	switch done {
	case 0:
		own.pair = f.latest.Load()
	case 1:
		f.reading.Store(own.pair)
	case 2:
		own.slot = f.slot[own.pair].Load()
	default:
		payload[word] = f.at(*own)[word]
		return word == len(payload)-1
	}
	return false
}
