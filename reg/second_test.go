package reg_test

import (
	"slices"

	"ratemill/reg"
)

// second is a second register, by the document's words: what begins lays out
// its small steps as a list, and a step takes the first one off.
type second struct {
	kind, width int

	latest, reading int
	slot            [2]int
	pairs           [2][2][]uint64

	writers, middle, readers []uint64
	fresh                    bool

	word []uint64

	writes, reads []func()
	got           []uint64
}

func newSecond(kind int, first []uint64) *second {
	s := &second{kind: kind, width: len(first)}
	empty := func() []uint64 { return make([]uint64, s.width) }
	s.pairs = [2][2][]uint64{{slices.Clone(first), empty()}, {empty(), empty()}}
	s.writers, s.middle, s.readers = empty(), empty(), slices.Clone(first)
	s.word = slices.Clone(first)
	return s
}

func (s *second) Write(payload []uint64) error {
	if len(s.writes) > 0 {
		return reg.ErrBusy
	}
	if len(payload) != s.width {
		return reg.ErrWidth
	}
	s.writes = s.toWrite(slices.Clone(payload))
	return nil
}

func (s *second) toWrite(payload []uint64) []func() {
	if s.kind == 3 {
		return []func(){func() { s.word[0] = payload[0] }}
	}
	var p, q int
	var steps []func()
	if s.kind == 1 {
		steps = append(steps, func() { p = 1 - s.reading }, func() { q = 1 - s.slot[p] })
	}
	for i, word := range payload {
		steps = append(steps, func() {
			if s.kind == 1 {
				s.pairs[p][q][i] = word
			} else {
				s.writers[i] = word
			}
		})
	}
	if s.kind == 1 {
		return append(steps, func() { s.slot[p] = q }, func() { s.latest = p })
	}
	return append(steps, func() {
		s.writers, s.middle = s.middle, s.writers
		s.fresh = true
	})
}

func (s *second) StepWrite() (bool, error) {
	if len(s.writes) == 0 {
		return false, reg.ErrIdle
	}
	s.writes[0]()
	s.writes = s.writes[1:]
	return len(s.writes) == 0, nil
}

func (s *second) Read() error {
	if len(s.reads) > 0 {
		return reg.ErrBusy
	}
	s.got = nil
	s.reads = s.toRead()
	return nil
}

func (s *second) toRead() []func() {
	if s.kind == 3 {
		return []func(){func() { s.got = append(s.got, s.word[0]) }}
	}
	var p, q int
	var steps []func()
	if s.kind == 1 {
		steps = append(steps, func() { p = s.latest }, func() { s.reading = p }, func() { q = s.slot[p] })
	} else {
		steps = append(steps, func() {
			if s.fresh {
				s.middle, s.readers = s.readers, s.middle
				s.fresh = false
			}
		})
	}
	for i := range s.width {
		steps = append(steps, func() {
			if s.kind == 1 {
				s.got = append(s.got, s.pairs[p][q][i])
			} else {
				s.got = append(s.got, s.readers[i])
			}
		})
	}
	return steps
}

func (s *second) StepRead() (bool, []uint64, error) {
	if len(s.reads) == 0 {
		return false, nil, reg.ErrIdle
	}
	s.reads[0]()
	s.reads = s.reads[1:]
	if len(s.reads) > 0 {
		return false, nil, nil
	}
	return true, slices.Clone(s.got), nil
}
