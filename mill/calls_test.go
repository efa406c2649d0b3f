package mill_test

import (
	"strings"
	"sync"
	"testing"
	"unsafe"

	"ratemill/mill"
	"ratemill/plain"
	"ratemill/reg"
)

const sample = "input x:int every 2;a:bool=not(x<1 xor fby(true,a))or x==min(x,-2)and d;c:int=under(x,2);d:bool=x>1;output a;"

// eachText goes through all texts of so many pieces at most.
func eachText(pieces []string, most int, see func(string)) {
	see("")
	if most == 0 {
		return
	}
	for _, p := range pieces {
		eachText(pieces, most-1, func(rest string) { see(p + rest) })
	}
}

func TestP1NoTextPanics(t *testing.T) {
	pieces := []string{"a", ":", "int", "=", "1", ";", "(", "-", " ", "#", "\xff", "output ", "if ", "0"}
	eachText(pieces, 4, func(text string) {
		for _, s := range []string{text, "a:int=" + text, "a:int=fby(" + text, "input x:int every " + text} {
			tree, err := mill.Parse(s)
			if (tree == nil) != (err != nil) {
				t.Fatalf("Parse(%q): tree %t, %v", s, tree != nil, err)
			}
			mill.Print(tree)
			p, err := mill.Compile(s)
			if (p == nil) != (err != nil) {
				t.Fatalf("Compile(%q): program %t, %v", s, p != nil, err)
			}
			p.Flows()
			p.Tasks()
			p.Meaning(0, [][]int64{{1}}, 1)
			p.Run([][]int64{{1}}, 1)
		}
	})
}

func TestP1NothingToAsk(t *testing.T) {
	if mill.Print(nil) != "" || mill.Print(&mill.Tree{}) != "" {
		t.Errorf("a tree of nothing is printed")
	}
	var d *mill.Diag
	if d.Error() != "" || d.Unwrap() != nil {
		t.Errorf("a Diag that is none tells something")
	}
	round := &mill.Diag{At: 1}
	if round.Error() == "" || round.Unwrap() != nil {
		t.Errorf("a Diag without an error")
	}
	round.Err = round
	if round.Error() == "" || round.Unwrap() != error(round) {
		t.Errorf("a Diag that holds itself")
	}
}

// Calls of later chapters on what is not there.
func TestP1NoReceiver(t *testing.T) {
	var p *mill.Program
	p.Flows()
	p.Tasks()
	p.Meaning(0, nil, 0)
	p.Machine()
	p.Run(nil, 0)
	var m *mill.Machine
	m.Tick(nil)
	m.Pick(0)
	m.Overrun()
	m.Clock()
	m.Busy(0)
	m.Log(0)
	var r *reg.Register
	r.Write(nil)
	r.StepWrite()
	r.Read()
	r.StepRead()
}

// A text whose bytes change behind the program's back must not change what was
// made of it.
func TestP1TextIsNotKept(t *testing.T) {
	bytes := []byte(sample)
	text := unsafe.String(&bytes[0], len(bytes))
	tree, err := mill.Parse(text)
	if err != nil {
		t.Fatal(err)
	}
	p := compiled(t, text)
	if string(bytes) != sample {
		t.Errorf("the text was changed")
	}
	ins := [][]int64{{1, 2, 3, 4, 5}}
	before, toldBefore := strings.Clone(mill.Print(tree)), strings.Clone(told(p))
	meantBefore := means(t, p, 1, ins, 6)
	runs(t, p, ins, 9, "[[1 2 3 4 5] [0 1 0 1 0] [1 3 5] [0 1 1 1 1]]")
	for i := range bytes {
		bytes[i] = 'z'
	}
	if after := mill.Print(tree); after != before {
		t.Errorf("printed %q, and when the text had changed %q", before, after)
	}
	if after := told(p); after != toldBefore {
		t.Errorf("told %q, and when the text had changed %q", toldBefore, after)
	}
	runs(t, p, ins, 9, "[[1 2 3 4 5] [0 1 0 1 0] [1 3 5] [0 1 1 1 1]]")
	if after := means(t, p, 1, ins, 6); after != meantBefore {
		t.Errorf("it meant %s, and when the text had changed %s", meantBefore, after)
	}
}

func TestP1SameByGoroutines(t *testing.T) {
	tree, err := mill.Parse(sample)
	if err != nil {
		t.Fatal(err)
	}
	want := mill.Print(tree)
	p := compiled(t, sample)
	wantTold := told(p)
	ins := [][]int64{{1, 2, 3, 4, 5}}
	wantMeant := []int64{0, 1, 0, 1, 0}
	var all sync.WaitGroup
	for range 20 {
		all.Go(func() {
			for range 50 {
				own, err := mill.Parse(sample)
				if err != nil || mill.Print(own) != want || mill.Print(tree) != want {
					t.Errorf("another answer: %v", err)
				}
				q, err := mill.Compile(sample)
				if err != nil || told(q) != wantTold || told(p) != wantTold {
					t.Errorf("another program: %v", err)
				}
				for n, want := range wantMeant {
					a, errA := p.Meaning(1, ins, n)
					b, errB := q.Meaning(1, ins, n)
					if a != want || b != want || errA != nil || errB != nil {
						t.Errorf("another meaning: %d, %v and %d, %v", a, errA, b, errB)
					}
				}
				if _, f := plain.Parse(sample + "a:int=;"); f != (plain.Fault{E: 3, At: len(sample) + 6}) {
					t.Errorf("another fault: %v", f)
				}
			}
		})
	}
	all.Wait()
}

func TestErrorsAreDifferent(t *testing.T) {
	if !plain.Different() {
		t.Errorf("two errors are one")
	}
}

// As package plain sees them: the numbers of the errors, and places.
func TestFaultsFromOutside(t *testing.T) {
	for _, c := range []struct {
		text string
		want plain.Fault
	}{
		{sample, plain.Fault{}},
		{strings.Repeat(" ", 4001), plain.Fault{E: 1, At: -1}},
		{strings.Repeat("a:int=1+2+3;", 60) + "a", plain.Fault{E: 1, At: 720}},
		{"a:int=01;", plain.Fault{E: 2, At: 6}},
		{"a:int=1<2<3;", plain.Fault{E: 3, At: 9}},
		{strings.Repeat("output a;", 61), plain.Fault{E: 4, At: 540}},
	} {
		tree, f := plain.Parse(c.text)
		if f != c.want || (tree == nil) != (c.want.E != 0) {
			t.Errorf("%.40q: tree %t, %v, want %v", c.text, tree != nil, f, c.want)
		}
	}
}

func TestFaultsOfCompileFromOutside(t *testing.T) {
	for _, c := range []struct {
		text string
		want plain.Fault
	}{
		{sample, plain.Fault{}},
		{strings.Repeat(" ", 4001), plain.Fault{E: 1, At: -1}},
		{"a:int=1<2<3;", plain.Fault{E: 3, At: 9}},
		{"input a:int every 1;a:int=1;", plain.Fault{E: 5, At: 20}},
		{"a:int=b;", plain.Fault{E: 6, At: 6}},
		{"a:int=true;", plain.Fault{E: 7, At: 0}},
		{"input a:int every 1;b:int=a+under(a,2);", plain.Fault{E: 8, At: 27}},
		{"a:int=1;", plain.Fault{E: 9, At: 0}},
		{"input a:int every 1;b:int=a+b;", plain.Fault{E: 10, At: 20}},
	} {
		p, f := plain.Compile(c.text)
		if f != c.want || (p == nil) != (c.want.E != 0) {
			t.Errorf("%.40q: program %t, %v, want %v", c.text, p != nil, f, c.want)
		}
	}
}
