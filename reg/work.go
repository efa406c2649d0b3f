package reg

// work is a writing or a reading: its payload, which is nil where none is under
// way (no width is 0), and how many of its small steps are done.
type work struct {
	payload []uint64
	done    int
}

func (w *work) underWay() bool { return w.payload != nil }

func (w *work) begin(payload []uint64) { *w = work{payload: payload} }

// next is what a small step is told; it counts that step.
func (w *work) next() (int, []uint64) {
	w.done++
	return w.done - 1, w.payload
}

// end lets the payload go: whoever is handed it has it alone.
func (w *work) end() []uint64 {
	payload := w.payload
	*w = work{}
	return payload
}
