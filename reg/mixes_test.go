package reg_test

import (
	"math/rand"
	"slices"
	"testing"

	"ratemill/reg"
)

// watcher plays moves on a register and on a second one, which must answer the
// same; of what is read it holds to what the document says of payloads.
type watcher struct {
	t                  *testing.T
	kind, width        int
	real               *reg.Register
	second             *second
	writing, reading   bool
	begun, ended       int // numbers of payloads: how far writings have begun, have ended
	least, last        int // of a reading: what it may not fall behind
	readings, advances int
	played             []byte
}

func watch(t *testing.T, kind, width int) *watcher {
	return &watcher{t: t, kind: kind, width: width, real: made(t, kind, width), second: newSecond(kind, payload(0, width))}
}

// writer goes on: it begins, if nothing is under way, or does a small step.
func (w *watcher) writer() {
	if w.writing {
		w.stepWrite()
	} else {
		w.write(w.width)
	}
}

func (w *watcher) reader() {
	if w.reading {
		w.stepRead()
	} else {
		w.read()
	}
}

func (w *watcher) write(width int) {
	w.played = append(w.played, 'W')
	given := payload(w.begun+1, width)
	got, want := w.real.Write(given), w.second.Write(given)
	if got != want {
		w.t.Fatalf("kind %d, width %d: %s: Write of %d words: %v, want %v", w.kind, w.width, w.played, width, got, want)
	}
	clear(given)
	if want == nil {
		w.writing = true
		w.begun++
	}
}

func (w *watcher) stepWrite() {
	w.played = append(w.played, 'w')
	got, err := w.real.StepWrite()
	want, wantErr := w.second.StepWrite()
	if got != want || err != wantErr {
		w.t.Fatalf("kind %d, width %d: %s: StepWrite: %t, %v, want %t, %v", w.kind, w.width, w.played, got, err, want, wantErr)
	}
	if want {
		w.writing = false
		w.ended = w.begun
	}
}

func (w *watcher) read() {
	w.played = append(w.played, 'R')
	got, want := w.real.Read(), w.second.Read()
	if got != want {
		w.t.Fatalf("kind %d, width %d: %s: Read: %v, want %v", w.kind, w.width, w.played, got, want)
	}
	if want == nil {
		w.reading = true
		w.least = w.ended
	}
}

func (w *watcher) stepRead() {
	w.played = append(w.played, 'r')
	over, words, err := w.real.StepRead()
	want, wantWords, wantErr := w.second.StepRead()
	if over != want || err != wantErr || !slices.Equal(words, wantWords) || (words == nil) != (wantWords == nil) {
		w.t.Fatalf("kind %d, width %d: %s: StepRead: %t, %v, %v, want %t, %v, %v", w.kind, w.width, w.played, over, words, err, want, wantWords, wantErr)
	}
	if want {
		w.reading = false
		w.judge(words)
		clear(words)
	}
}

// judge: P11.
func (w *watcher) judge(words []uint64) {
	n := numberOf(words, w.width)
	if n < w.least || n < w.last || n > w.begun {
		w.t.Fatalf("kind %d, width %d: %s: %v is read, which is payload %d; when it began %d was written, payload %d was read ahead, %d has begun", w.kind, w.width, w.played, words, n, w.least, w.last, w.begun)
	}
	if n > w.last {
		w.advances++
	}
	w.last = n
	w.readings++
}

// eachMix goes through all orders of so many moves of the writer and the reader.
func eachMix(writers, readers int, see func(moves []byte)) {
	moves := make([]byte, 0, writers+readers)
	var on func(writers, readers int)
	on = func(writers, readers int) {
		if writers+readers == 0 {
			see(moves)
			return
		}
		if writers > 0 {
			moves = append(moves, 'w')
			on(writers-1, readers)
			moves = moves[:len(moves)-1]
		}
		if readers > 0 {
			moves = append(moves, 'r')
			on(writers, readers-1)
			moves = moves[:len(moves)-1]
		}
	}
	on(writers, readers)
}

// Whole writings and readings, their beginnings and steps in every order.
func TestP11EveryOrder(t *testing.T) {
	for _, c := range []struct{ kind, width, writings, readings int }{
		{1, 1, 1, 1}, {1, 1, 2, 1}, {1, 1, 1, 2}, {1, 1, 3, 1}, {1, 1, 1, 3}, {1, 2, 2, 1}, {1, 2, 1, 2}, {1, 3, 1, 1}, {1, 3, 2, 1},
		{2, 1, 2, 2}, {2, 1, 3, 2}, {2, 1, 2, 3}, {2, 1, 3, 3}, {2, 2, 2, 2}, {2, 2, 3, 2}, {2, 3, 2, 2}, {2, 3, 3, 1}, {2, 3, 1, 3},
		{3, 1, 3, 3}, {3, 1, 4, 4}, {3, 1, 1, 6}, {3, 1, 6, 1},
	} {
		writing, reading := stepsOf(c.kind, c.width)
		advances := 0
		eachMix(c.writings*(writing+1), c.readings*(reading+1), func(moves []byte) {
			w := watch(t, c.kind, c.width)
			for _, move := range moves {
				if move == 'w' {
					w.writer()
				} else {
					w.reader()
				}
			}
			if w.ended != c.writings || w.readings != c.readings {
				t.Fatalf("%v: %s: %d writings and %d readings have ended", c, w.played, w.ended, w.readings)
			}
			advances += w.advances
		})
		if advances == 0 {
			t.Errorf("%v: nobody ever read what was written", c)
		}
	}
}

// Two of each, of two words and of kind 1, in every order: here a beginning and
// its first step are one move, for there are too many orders otherwise.
func TestP11EveryOrderOfTwo(t *testing.T) {
	eachMix(2*6, 2*5, func(moves []byte) {
		w := watch(t, 1, 2)
		for _, move := range moves {
			switch {
			case move == 'w' && !w.writing:
				w.writer()
				w.writer()
			case move == 'w':
				w.writer()
			case !w.reading:
				w.reader()
				w.reader()
			default:
				w.reader()
			}
		}
	})
}

// Long ways, on which the writer and the reader go on by turns of any length,
// and now and then somebody asks for what cannot be.
func TestP11LongWays(t *testing.T) {
	random := rand.New(rand.NewSource(9))
	for way := range 3000 {
		kind, width := 1+way%3, 1
		if kind < 3 {
			width = 1 + random.Intn(6)
		}
		w := watch(t, kind, width)
		for len(w.played) < 300 {
			many := 1 + random.Intn(1+random.Intn(20))
			writes := random.Intn(2) == 0
			for range many {
				if writes {
					w.writer()
				} else {
					w.reader()
				}
			}
			if random.Intn(4) == 0 {
				w.askWrongly(random)
			}
		}
		if w.readings == 0 || w.advances == 0 {
			t.Errorf("kind %d, width %d: %d readings, %d of them new ones", kind, width, w.readings, w.advances)
		}
	}
}

// askWrongly does what only an error can answer.
func (w *watcher) askWrongly(random *rand.Rand) {
	switch {
	case w.writing:
		w.write(w.width + random.Intn(3) - 1)
	case random.Intn(2) == 0:
		w.stepWrite()
	default:
		w.write(w.width + 1 - 2*random.Intn(2))
	}
	if w.reading {
		w.read()
	} else {
		w.stepRead()
	}
}

// Many writings at each step of a reading, and many readings at each step of a
// writing.
func TestP11ManyWithinOne(t *testing.T) {
	for kind := 1; kind <= 3; kind++ {
		for width := 1; width <= 4 && (kind < 3 || width == 1); width++ {
			writing, reading := stepsOf(kind, width)
			w := watch(t, kind, width)
			for range 4 * (reading + 1) {
				for range 7 * (writing + 1) {
					w.writer()
				}
				w.reader()
			}
			if w.readings != 4 || w.advances < 3 {
				t.Errorf("kind %d, width %d: %d readings, %d of them new ones", kind, width, w.readings, w.advances)
			}
			w = watch(t, kind, width)
			for range 4 * (writing + 1) {
				for range 7 * (reading + 1) {
					w.reader()
				}
				w.writer()
			}
			for range reading + 1 {
				w.reader()
			}
			if w.ended != 4 || w.last != 4 || w.advances != 4 {
				t.Errorf("kind %d, width %d: %d writings, payload %d is read at last, %d were", kind, width, w.ended, w.last, w.advances)
			}
		}
	}
}
