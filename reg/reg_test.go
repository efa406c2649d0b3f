package reg_test

import (
	"fmt"
	"math"
	"slices"
	"strings"
	"testing"

	"ratemill/plain"
	"ratemill/reg"
)

// register is what the program and the second register have in common.
type register interface {
	Write(payload []uint64) error
	StepWrite() (bool, error)
	Read() error
	StepRead() (bool, []uint64, error)
}

// widthsOf are the widths that a kind is tried with.
func widthsOf(kind int) []int {
	if kind == 3 {
		return []int{1}
	}
	return []int{1, 2, 3, 4096}
}

// stepsOf tells how many small steps a writing and a reading have.
func stepsOf(kind, width int) (writing, reading int) {
	switch kind {
	case 1:
		return width + 4, width + 3
	case 2:
		return width + 1, width + 1
	}
	return 1, 1
}

// eachRegister is called with all kinds and widths that are tried.
func eachRegister(see func(kind, width int)) {
	for kind := 1; kind <= 3; kind++ {
		for _, width := range widthsOf(kind) {
			see(kind, width)
		}
	}
}

// payload number n: no word of it stands in another one, or elsewhere in it.
func payload(n, width int) []uint64 {
	words := make([]uint64, width)
	for i := range words {
		words[i] = uint64(n+1)<<16 | uint64(i)
	}
	return words
}

// numberOf tells which payload it is; -1, if it is none of the width.
func numberOf(words []uint64, width int) int {
	if len(words) != width {
		return -1
	}
	n := int(words[0]>>16) - 1
	if !slices.Equal(words, payload(n, width)) {
		return -1
	}
	return n
}

// made is a register that holds payload 0.
func made(t *testing.T, kind, width int) *reg.Register {
	t.Helper()
	first := payload(0, width)
	r, err := reg.New(kind, first)
	if err != nil || r == nil {
		t.Fatalf("New(%d, %d words): %v, %v", kind, width, r, err)
	}
	if !slices.Equal(first, payload(0, width)) {
		t.Fatalf("New(%d, %d words) has changed its argument", kind, width)
	}
	clear(first)
	return r
}

// writes writes a payload whole.
func writes(t *testing.T, r register, kind, width, n int) {
	t.Helper()
	if err := r.Write(payload(n, width)); err != nil {
		t.Fatalf("kind %d, width %d: Write: %v", kind, width, err)
	}
	writesOn(t, r, kind, width, 0)
}

// writesOn writes what is left when so many steps are done.
func writesOn(t *testing.T, r register, kind, width, done int) {
	t.Helper()
	last, _ := stepsOf(kind, width)
	for step := done + 1; step <= last; step++ {
		over, err := r.StepWrite()
		if err != nil || over != (step == last) {
			t.Fatalf("kind %d, width %d: StepWrite %d of %d: %t, %v", kind, width, step, last, over, err)
		}
	}
}

// reads reads a payload whole, and tells its number.
func reads(t *testing.T, r register, kind, width int) int {
	t.Helper()
	if err := r.Read(); err != nil {
		t.Fatalf("kind %d, width %d: Read: %v", kind, width, err)
	}
	return readsOn(t, r, kind, width, 0)
}

// readsOn reads what is left when so many steps are done.
func readsOn(t *testing.T, r register, kind, width, done int) int {
	t.Helper()
	_, last := stepsOf(kind, width)
	for step := done + 1; ; step++ {
		over, words, err := r.StepRead()
		if err != nil || over != (step == last) || over != (words != nil) {
			t.Fatalf("kind %d, width %d: StepRead %d of %d: %t, %v, %v", kind, width, step, last, over, words, err)
		}
		if over {
			n := numberOf(words, width)
			if n < 0 {
				t.Fatalf("kind %d, width %d: %v is read, that nobody wrote", kind, width, words)
			}
			return n
		}
	}
}

// takes does so many small steps that are not the last ones.
func takes(t *testing.T, r register, writing, reading int) {
	t.Helper()
	for range writing {
		if over, err := r.StepWrite(); over || err != nil {
			t.Fatalf("StepWrite: %t, %v", over, err)
		}
	}
	for range reading {
		if over, words, err := r.StepRead(); over || words != nil || err != nil {
			t.Fatalf("StepRead: %t, %v, %v", over, words, err)
		}
	}
}

func TestErrorsAreDifferent(t *testing.T) {
	all := []error{reg.ErrKind, reg.ErrWidth, reg.ErrBusy, reg.ErrIdle}
	for i, e := range all {
		for k, f := range all {
			if e == nil || (e == f) != (i == k) {
				t.Errorf("errors %d and %d", i, k)
			}
		}
	}
}

func TestP9KindsAndWidths(t *testing.T) {
	for _, kind := range []int{math.MinInt, -1, 0, 1, 2, 3, 4, 5, math.MaxInt} {
		for _, width := range []int{0, 1, 2, 3, 4095, 4096, 4097, 10000} {
			var want error
			switch {
			case kind < 1 || kind > 3:
				want = reg.ErrKind
			case width < 1 || width > 4096 || kind == 3 && width > 1:
				want = reg.ErrWidth
			}
			r, err := reg.New(kind, payload(0, width))
			if err != want || (r == nil) != (want != nil) {
				t.Errorf("New(%d, %d words): register %t, %v, want %v", kind, width, r != nil, err, want)
			}
		}
		if r, err := reg.New(kind, nil); r != nil || err == nil {
			t.Errorf("New(%d, nil): register %t, %v", kind, r != nil, err)
		}
	}
}

func TestP9FirstIsHeld(t *testing.T) {
	eachRegister(func(kind, width int) {
		r := made(t, kind, width)
		for range 3 {
			if n := reads(t, r, kind, width); n != 0 {
				t.Errorf("kind %d, width %d: payload %d is read of a new register", kind, width, n)
			}
		}
	})
}

func TestP9RegistersAreApart(t *testing.T) {
	for kind := 1; kind <= 3; kind++ {
		a, b := made(t, kind, 1), made(t, kind, 1)
		writes(t, a, kind, 1, 1)
		if err := a.Write(payload(2, 1)); err != nil {
			t.Fatal(err)
		}
		if _, err := b.StepWrite(); err != reg.ErrIdle {
			t.Errorf("kind %d: one writes, and another register's StepWrite: %v", kind, err)
		}
		if n := reads(t, b, kind, 1); n != 0 {
			t.Errorf("kind %d: payload %d is read, that another register was given", kind, n)
		}
	}
}

// All words there are can stand in a payload.
func TestP10AnyWord(t *testing.T) {
	words := []uint64{0, 1, math.MaxInt64, math.MaxInt64 + 1, math.MaxUint64}
	for kind := 1; kind <= 3; kind++ {
		for _, first := range words {
			for _, next := range words {
				r, err := reg.New(kind, []uint64{first})
				if err != nil {
					t.Fatal(err)
				}
				got := script(r, "RrrrrWwwwwwRrrrr", func() []uint64 { return []uint64{next} })
				if want := fmt.Sprint([]uint64{first}, []uint64{next}); got != want {
					t.Errorf("kind %d: read %s, want %s", kind, got, want)
				}
			}
		}
	}
}

// script plays moves: W and R begin, w and r do a small step; it tells what is
// read. Steps behind the last one are allowed.
func script(r register, moves string, next func() []uint64) string {
	var read []string
	for _, move := range moves {
		switch move {
		case 'W':
			r.Write(next())
		case 'w':
			r.StepWrite()
		case 'R':
			r.Read()
		case 'r':
			if over, words, _ := r.StepRead(); over {
				read = append(read, fmt.Sprint(words))
			}
		}
	}
	return strings.Join(read, " ")
}

// The last point of the document's examples, and what else its words tell.
func TestP10Examples(t *testing.T) {
	for _, c := range []struct {
		kind, width int
		moves, want string
	}{
		{1, 2, "RrrrWwwwwwwWwwwwwwrrRrrrrr", "[0 0] [2 2]"},
		{1, 2, "RrrWwwwwwwWwwwwwwrrrRrrrrr", "[0 0] [2 2]"},
		{1, 2, "RrWwwwwwwWwwwwwwrrrrRrrrrr", "[0 0] [2 2]"},
		{1, 2, "RWwwwwwwWwwwwwwrrrrrRrrrrr", "[2 2] [2 2]"},
		// The third payload goes to the pair that is latest, and is there for a
		// reading one step ahead of its writing's end.
		{1, 2, "WwwwwwwRrrrrrWwwwwwwWwwwwwRrrrrrw", "[1 1] [3 3]"},
		{1, 2, "WwwwwwwRrrrrrWwwwwwwWwwwwRrrrrrww", "[1 1] [2 2]"},
		{1, 1, "WwRrrrrwwwwRrrrr", "[0] [1]"},
		{2, 2, "RrWwwwrrRrrr", "[0 0] [1 1]"},
		{2, 2, "RWwwwrrrRrrr", "[1 1] [1 1]"},
		{2, 2, "WwwRrrrwRrrr", "[0 0] [1 1]"},
		{2, 2, "WwwwWwwwWwwwRrrrRrrr", "[3 3] [3 3]"},
		{2, 2, "WwwwRrWwwwWwwwrrRrrr", "[1 1] [3 3]"},
		{3, 1, "WRrwRr", "[0] [1]"},
		{3, 1, "RWwr", "[1]"},
	} {
		r, err := reg.New(c.kind, make([]uint64, c.width))
		if err != nil {
			t.Fatal(err)
		}
		n := uint64(0)
		got := script(r, c.moves, func() []uint64 {
			n++
			return slices.Repeat([]uint64{n}, c.width)
		})
		if got != c.want {
			t.Errorf("kind %d: %s: %s, want %s", c.kind, c.moves, got, c.want)
		}
	}
}

func TestP10OneAfterAnother(t *testing.T) {
	eachRegister(func(kind, width int) {
		r := made(t, kind, width)
		n := 0
		for _, many := range []int{1, 2, 1, 3, 1, 1, 4, 2, 0, 5} {
			for range many {
				n++
				writes(t, r, kind, width, n)
			}
			for range 1 + many%2 {
				if got := reads(t, r, kind, width); got != n {
					t.Errorf("kind %d, width %d: payload %d is read, %d was written last", kind, width, got, n)
				}
			}
		}
	})
}

func TestP10Widths(t *testing.T) {
	eachRegister(func(kind, width int) {
		r := made(t, kind, width)
		for _, other := range []int{0, width - 1, width + 1, 2 * width, 5000} {
			if err := r.Write(payload(1, other)); err != reg.ErrWidth {
				t.Errorf("kind %d, width %d: Write of %d words: %v", kind, width, other, err)
			}
			if over, err := r.StepWrite(); over || err != reg.ErrIdle {
				t.Errorf("kind %d, width %d: StepWrite behind a Write of %d words: %t, %v", kind, width, other, over, err)
			}
		}
		if err := r.Write(nil); err != reg.ErrWidth {
			t.Errorf("kind %d, width %d: Write(nil): %v", kind, width, err)
		}
		if n := reads(t, r, kind, width); n != 0 {
			t.Errorf("kind %d, width %d: payload %d is read, and none was written", kind, width, n)
		}
	})
}

// A writing that is begun at whatever step of another one, of whatever width.
func TestP10BusyWriting(t *testing.T) {
	eachRegister(func(kind, width int) {
		steps, _ := stepsOf(kind, width)
		for done := 0; done < steps; done += 1 + steps/50 {
			r := made(t, kind, width)
			if err := r.Write(payload(1, width)); err != nil {
				t.Fatal(err)
			}
			takes(t, r, done, 0)
			for _, other := range []int{width, 0, width - 1, width + 1} {
				if err := r.Write(payload(2, other)); err != reg.ErrBusy {
					t.Errorf("kind %d, width %d: Write of %d words behind %d steps: %v", kind, width, other, done, err)
				}
			}
			writesOn(t, r, kind, width, done)
			if n := reads(t, r, kind, width); n != 1 {
				t.Errorf("kind %d, width %d: payload %d is read", kind, width, n)
			}
		}
	})
}

func TestP10BusyReading(t *testing.T) {
	eachRegister(func(kind, width int) {
		_, steps := stepsOf(kind, width)
		r := made(t, kind, width)
		for done := 0; done < steps; done += 1 + steps/50 {
			if err := r.Read(); err != nil {
				t.Fatal(err)
			}
			takes(t, r, 0, done)
			for range 2 {
				if err := r.Read(); err != reg.ErrBusy {
					t.Errorf("kind %d, width %d: Read behind %d steps: %v", kind, width, done, err)
				}
			}
			if n := readsOn(t, r, kind, width, done); n != 0 {
				t.Errorf("kind %d, width %d: payload %d is read", kind, width, n)
			}
		}
	})
}

func TestP10Idle(t *testing.T) {
	idle := func(r *reg.Register, when string, kind int, writes, reads bool) {
		t.Helper()
		if over, err := r.StepWrite(); writes && (over || err != reg.ErrIdle) {
			t.Errorf("kind %d, %s: StepWrite: %t, %v", kind, when, over, err)
		}
		if over, words, err := r.StepRead(); reads && (over || words != nil || err != reg.ErrIdle) {
			t.Errorf("kind %d, %s: StepRead: %t, %v, %v", kind, when, over, words, err)
		}
	}
	eachRegister(func(kind, width int) {
		r := made(t, kind, width)
		idle(r, "at first", kind, true, true)
		writes(t, r, kind, width, 1)
		idle(r, "behind a writing", kind, true, true)
		if n := reads(t, r, kind, width); n != 1 {
			t.Errorf("kind %d, width %d: payload %d is read", kind, width, n)
		}
		idle(r, "behind a reading", kind, true, true)
		if err := r.Read(); err != nil {
			t.Fatal(err)
		}
		idle(r, "while one reads", kind, true, false)
		r = made(t, kind, width)
		if err := r.Write(payload(2, width)); err != nil {
			t.Fatal(err)
		}
		idle(r, "while one writes", kind, false, true)
	})
}

// What is handed in changes at each step, and so does what was answered.
func TestP10ListsAreApart(t *testing.T) {
	eachRegister(func(kind, width int) {
		r := made(t, kind, width)
		given := payload(1, width)
		if err := r.Write(given); err != nil || !slices.Equal(given, payload(1, width)) {
			t.Fatalf("kind %d, width %d: Write: %v, and its argument is %v", kind, width, err, given)
		}
		writing, reading := stepsOf(kind, width)
		for range writing {
			clear(given)
			if _, err := r.StepWrite(); err != nil || slices.Max(given) != 0 {
				t.Fatalf("kind %d, width %d: StepWrite: %v, and what was handed in is %v", kind, width, err, given)
			}
		}
		var answers [][]uint64
		for range 3 {
			if err := r.Read(); err != nil {
				t.Fatal(err)
			}
			takes(t, r, 0, reading-1)
			_, words, _ := r.StepRead()
			if numberOf(words, width) != 1 {
				t.Fatalf("kind %d, width %d: read %v", kind, width, words)
			}
			clear(words[:cap(words)])
			answers = append(answers, words)
		}
		for i, words := range answers {
			words[0] = uint64(i)
		}
		for i, words := range answers {
			if words[0] != uint64(i) {
				t.Errorf("kind %d, width %d: two readings answer one list", kind, width)
			}
		}
	})
}

// A reading that is stopped at any of its steps holds no writing up.
func TestP10ReaderHoldsNobodyUp(t *testing.T) {
	eachRegister(func(kind, width int) {
		_, steps := stepsOf(kind, width)
		for done := 0; done < steps; done += 1 + steps/20 {
			r := made(t, kind, width)
			if err := r.Read(); err != nil {
				t.Fatal(err)
			}
			takes(t, r, 0, done)
			for n := 1; n <= 5; n++ {
				writes(t, r, kind, width, n)
			}
			want := 0
			if done == 0 {
				want = 5
			}
			if n := readsOn(t, r, kind, width, done); n != want {
				t.Errorf("kind %d, width %d: five writings behind %d steps of a reading: payload %d is read, want %d", kind, width, done, n, want)
			}
			if n := reads(t, r, kind, width); n != 5 {
				t.Errorf("kind %d, width %d: five writings behind %d steps of a reading: payload %d is read next", kind, width, done, n)
			}
		}
	})
}

// A writing that is stopped at any of its steps holds no reading up.
func TestP10WriterHoldsNobodyUp(t *testing.T) {
	eachRegister(func(kind, width int) {
		steps, _ := stepsOf(kind, width)
		for done := 0; done < steps; done += 1 + steps/20 {
			r := made(t, kind, width)
			writes(t, r, kind, width, 1)
			if n := reads(t, r, kind, width); n != 1 {
				t.Fatalf("kind %d, width %d: payload %d is read", kind, width, n)
			}
			if err := r.Write(payload(2, width)); err != nil {
				t.Fatal(err)
			}
			takes(t, r, done, 0)
			for range 5 {
				if n := reads(t, r, kind, width); n != 1 {
					t.Errorf("kind %d, width %d: behind %d steps of a writing payload %d is read", kind, width, done, n)
				}
			}
			writesOn(t, r, kind, width, done)
			if n := reads(t, r, kind, width); n != 2 {
				t.Errorf("kind %d, width %d: payload %d is read at last", kind, width, n)
			}
		}
	})
}

// Registers that New did not make.
func TestP1NoRegister(t *testing.T) {
	for _, r := range []*reg.Register{nil, {}} {
		for _, width := range []int{0, 1} {
			if r.Write(payload(1, width)) == nil || r.Read() == nil {
				t.Errorf("something begins with no register")
			}
			if over, err := r.StepWrite(); over || err != reg.ErrIdle {
				t.Errorf("StepWrite of no register: %t, %v", over, err)
			}
			if over, words, err := r.StepRead(); over || words != nil || err != reg.ErrIdle {
				t.Errorf("StepRead of no register: %t, %v, %v", over, words, err)
			}
		}
	}
}

// As package plain sees them: the numbers of the errors.
func TestP10FromOutside(t *testing.T) {
	if r, f := plain.Register(4, nil); r != nil || f != 1 {
		t.Errorf("a register of kind 4: %t, %d", r != nil, f)
	}
	if r, f := plain.Register(1, nil); r != nil || f != 2 {
		t.Errorf("a register of no words: %t, %d", r != nil, f)
	}
	for kind := 1; kind <= 3; kind++ {
		r, f := plain.Register(kind, []uint64{7})
		if f != 0 {
			t.Fatalf("a register of kind %d: %d", kind, f)
		}
		_, idleWrite := plain.StepWrite(r)
		_, _, idleRead := plain.StepRead(r)
		faults := []int{idleWrite, idleRead, plain.Write(r, nil), plain.Write(r, []uint64{8}), plain.Write(r, nil), plain.Read(r), plain.Read(r)}
		if want := []int{4, 4, 2, 0, 3, 0, 3}; !slices.Equal(faults, want) {
			t.Errorf("kind %d: faults %v, want %v", kind, faults, want)
		}
		writing, reading := stepsOf(kind, 1)
		for step := 1; step <= reading; step++ {
			over, words, f := plain.StepRead(r)
			if f != 0 || over != (step == reading) || over != slices.Equal(words, []uint64{7}) {
				t.Errorf("kind %d: StepRead: %t, %v, %d", kind, over, words, f)
			}
		}
		for step := 1; step <= writing; step++ {
			if over, f := plain.StepWrite(r); f != 0 || over != (step == writing) {
				t.Errorf("kind %d: StepWrite: %t, %d", kind, over, f)
			}
		}
		plain.Read(r)
		var words []uint64
		for range reading {
			_, words, _ = plain.StepRead(r)
		}
		if !slices.Equal(words, []uint64{8}) {
			t.Errorf("kind %d: %v is read at last", kind, words)
		}
	}
}
