package reg

import "sync/atomic"

// oneWord is kind 3.
type oneWord struct {
	word atomic.Uint64
}

func newOneWord(first []uint64) *oneWord {
	o := &oneWord{}
	o.word.Store(first[0])
	return o
}

func (o *oneWord) write(_ int, payload []uint64) bool {
	o.word.Store(payload[0])
	return true
}

func (o *oneWord) read(_ int, payload []uint64) bool {
	payload[0] = o.word.Load()
	return true
}
