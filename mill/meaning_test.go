package mill_test

import (
	"fmt"
	"math"
	"slices"
	"strings"
	"testing"

	"ratemill/mill"
	"ratemill/plain"
)

const (
	most  = math.MaxInt64
	least = math.MinInt64
)

// means spells a flow's values out from instant 0 on; - where one is not there.
func means(t *testing.T, p *mill.Program, flow int, ins [][]int64, instants int) string {
	t.Helper()
	var out []string
	for n := range instants {
		v, err := p.Meaning(flow, ins, n)
		switch {
		case err == nil:
			out = append(out, fmt.Sprint(v))
		case err == mill.ErrInputs && v == 0:
			out = append(out, "-")
		default:
			t.Fatalf("Meaning(%d, .., %d): %d, %v", flow, n, v, err)
		}
	}
	return strings.Join(out, " ")
}

// meansBehind holds the last flow of each text, behind x and b of period 4, to
// its values at as many instants as are told.
func meansBehind(t *testing.T, ins [][]int64, cases ...[2]string) {
	t.Helper()
	for _, c := range cases {
		p := compiled(t, "input x:int every 4;input b:bool every 4;"+c[0])
		got := means(t, p, len(p.Flows())-1, ins, len(strings.Fields(c[1])))
		if got != c[1] {
			t.Errorf("%s means %s, want %s", c[0], got, c[1])
		}
	}
}

func TestP5Example(t *testing.T) {
	p := compiled(t, "input x : int every 2; s : int = x + fby(0, s); u : int = under(s, 2); h : int = hold(7, u, 2) + s; output h;")
	ins := [][]int64{{1, 2, 3, 4, 5}}
	for flow, want := range []string{"1 2 3 4 5 -", "1 3 6 10 15 -", "1 6 15 - - -", "8 10 7 11 21 -"} {
		if got := means(t, p, flow, ins, 6); got != want {
			t.Errorf("flow %d means %s, want %s", flow, got, want)
		}
	}
}

func TestP5Operators(t *testing.T) {
	ins := [][]int64{{7, -7, 0, most, least}, {1, 0, 1, 0, 1}}
	meansBehind(t, ins,
		[2]string{"a:int=x;", "7 -7 0 9223372036854775807 -9223372036854775808 -"},
		[2]string{"a:bool=b;", "1 0 1 0 1 -"},
		[2]string{"a:int=-x;", "-7 7 0 -9223372036854775807 -9223372036854775808"},
		[2]string{"a:bool=not b;", "0 1 0 1 0"},
		[2]string{"a:int=x+1;", "8 -6 1 -9223372036854775808 -9223372036854775807"},
		[2]string{"a:int=x-1;", "6 -8 -1 9223372036854775806 9223372036854775807"},
		[2]string{"a:int=1-x;", "-6 8 1 -9223372036854775806 -9223372036854775807"},
		[2]string{"a:int=x*2;", "14 -14 0 -2 0"},
		[2]string{"a:int=x*x;", "49 49 0 1 0"},
		[2]string{"a:int=x/2;", "3 -3 0 4611686018427387903 -4611686018427387904"},
		[2]string{"a:int=x%2;", "1 -1 0 1 0"},
		[2]string{"a:int=x/-2;", "-3 3 0 -4611686018427387903 4611686018427387904"},
		[2]string{"a:int=x%-2;", "1 -1 0 1 0"},
		[2]string{"a:int=x/-1;", "-7 7 0 -9223372036854775807 -9223372036854775808"},
		[2]string{"a:int=x%-1;", "0 0 0 0 0"},
		[2]string{"a:int=x/0;", "0 0 0 0 0"},
		[2]string{"a:int=x%0;", "0 0 0 0 0"},
		[2]string{"a:int=100/x;", "14 -14 0 0 0"},
		[2]string{"a:int=100%x;", "2 2 0 100 100"},
		[2]string{"a:int=min(x,1);", "1 -7 0 1 -9223372036854775808"},
		[2]string{"a:int=max(x,1);", "7 1 1 9223372036854775807 1"},
		[2]string{"a:int=min(1,x);", "1 -7 0 1 -9223372036854775808"},
		[2]string{"a:int=max(1,x);", "7 1 1 9223372036854775807 1"},
		[2]string{"a:int=if b then x else 5;", "7 5 0 5 -9223372036854775808"},
		[2]string{"a:bool=if b then false else b;", "0 0 0 0 0"},
		[2]string{"a:bool=if x>0 then b else not b;", "1 1 0 0 0"},
	)
}

func TestP5TruthTables(t *testing.T) {
	ins := [][]int64{{0, 0, 1, 1}, {0, 1, 0, 1}}
	for sign, want := range map[string]string{
		"<": "0 1 0 0", "<=": "1 1 0 1", ">": "0 0 1 0", ">=": "1 0 1 1",
		"==": "1 0 0 1", "!=": "0 1 1 0",
	} {
		meansBehind(t, ins, [2]string{"c:int=if b then 1 else 0;a:bool=x" + sign + "c;", want})
	}
	for sign, want := range map[string]string{
		"and": "0 0 0 1", "or": "0 1 1 1", "xor": "0 1 1 0", "==": "1 0 0 1", "!=": "0 1 1 0",
	} {
		meansBehind(t, ins,
			[2]string{"c:bool=x==1;a:bool=c " + sign + " b;", want},
			[2]string{"a:bool=(x==1) " + sign + " b;", want})
	}
	extremes := [][]int64{{least, most, -1}, nil}
	meansBehind(t, extremes,
		[2]string{"a:bool=x<0;", "1 0 1"},
		[2]string{"a:bool=x<=-9223372036854775807;", "1 0 0"},
		[2]string{"a:bool=x>-1;", "0 1 0"},
		[2]string{"a:bool=x>=-1;", "0 1 1"},
		[2]string{"a:bool=x==-x;", "1 0 0"})
}

func TestP5Literals(t *testing.T) {
	ins := [][]int64{{0, 0, 0}, {1, 1, 1}}
	meansBehind(t, ins,
		[2]string{"a:int=x+9223372036854775807;", "9223372036854775807 9223372036854775807 9223372036854775807 -"},
		[2]string{"a:bool=b and true;", "1 1 1 -"},
		[2]string{"a:bool=b and false;", "0 0 0 -"},
		// of every period, also within what has none
		[2]string{"a:int=x+under(3,2);", "3 3 3"},
		[2]string{"a:int=x+hold(5,3,2);", "5 5 3"},
		[2]string{"a:int=x+fby(5,3);", "5 3 3"},
		[2]string{"a:int=x+under(fby(5,3),1000);", "5 3 3"},
		[2]string{"a:int=x+hold(5,fby(6,3),2);", "5 5 6"},
		[2]string{"a:bool=b and fby(false,true);", "0 1 1"},
		[2]string{"a:bool=b xor hold(false,true,2);", "1 1 0"},
		[2]string{"a:int=x+fby(-9223372036854775807,0);", "-9223372036854775807 0 0"},
		[2]string{"a:int=x+hold(-5,-6,2);", "-5 -5 -6"},
	)
}

func TestP5Instants(t *testing.T) {
	ins := [][]int64{{1, 2, 3, 4, 5, 6, 7, 8}, {1, 0, 0, 1}}
	meansBehind(t, ins,
		[2]string{"a:int=fby(9,x);", "9 1 2 3 4 5 6 7 8 -"},
		[2]string{"a:int=fby(9,fby(8,x));", "9 8 1 2 3 4 5 6 7 8 -"},
		[2]string{"a:bool=fby(true,b);", "1 1 0 0 1 -"},
		[2]string{"a:int=under(x,2);", "1 3 5 7 -"},
		[2]string{"a:int=under(x,3);", "1 4 7 -"},
		[2]string{"a:int=under(under(x,2),2);", "1 5 -"},
		[2]string{"a:int=under(x,1000);", "1 - -"},
		[2]string{"a:int=hold(9,x,2);", "9 9 1 1 2 2 3 3 4 4 5 5 6 6 7 7 8 8 -"},
		[2]string{"a:int=hold(9,x,4);", "9 9 9 9 1 1 1 1 2"},
		[2]string{"a:bool=hold(false,b,2);", "0 0 1 1 0 0 0 0 1 1 -"},
		[2]string{"a:int=hold(9,hold(8,x,2),2);", "9 9 8 8 8 8 1 1 1 1 2"},
		[2]string{"a:int=hold(9,fby(8,x),2);", "9 9 8 8 1 1 2"},
		[2]string{"a:int=fby(8,hold(9,x,2));", "8 9 9 1 1 2"},
		[2]string{"a:int=under(hold(9,x,2),2);", "9 1 2 3"},
		[2]string{"a:int=under(hold(9,x,2),3);", "9 1 3 4"},
		[2]string{"a:int=hold(9,under(x,2),2);", "9 9 1 1 3 3 5 5 7 7 -"},
		[2]string{"a:int=hold(9,under(x,3),3);", "9 9 9 1 1 1 4 4 4 7 7 7 -"},
		[2]string{"a:int=under(fby(9,x),2);", "9 2 4 6 8 -"},
		[2]string{"a:int=fby(9,under(x,2));", "9 1 3 5 7 -"},
		// operators within: all operands at the instant that is asked for
		[2]string{"a:int=under(x*10+fby(0,x),2);", "10 32 54 76 -"},
		[2]string{"a:int=fby(0,if b then x else -x);", "0 1 -2 -3 4 -"},
		[2]string{"a:int=hold(0,max(x,3)-min(x,2),2);", "0 0 2 2 1 1 1 1 2 2"},
	)
}

func TestP5FlowsOfFlows(t *testing.T) {
	ins := [][]int64{{1, 2, 3, 4, 5, 6, 7, 8}, nil}
	meansBehind(t, ins,
		[2]string{"a:int=x+fby(0,a);", "1 3 6 10 15 21 28 36 -"},
		[2]string{"a:int=fby(0,c);c:int=x*x+a;", "1 5 14 30 55"},
		[2]string{"c:int=d+1;d:int=x;a:int=c*d;", "2 6 12 20"},
		[2]string{"c:int=hold(0,a,2);a:int=x+under(c,2);", "1 3 6 10 15 21 28 36 -"},
		[2]string{"d:int=hold(1,a,2)+hold(0,x,2);a:int=x+under(d,2);", "2 5 10 17"},
		[2]string{"c:int=x+fby(1,fby(0,c));a:int=under(c,2);", "2 5 10 17 -"},
	)
}

// Instants wrap round only where no name is: what has a period does not get so
// far.
func TestP5InstantsWrapRound(t *testing.T) {
	around := func(inner string, times int, k string) string {
		return "a:int=x+" + strings.Repeat("under(", times) + inner + strings.Repeat(","+k+")", times) + ";"
	}
	ins := [][]int64{make([]int64, 10), nil}
	meansBehind(t, ins,
		[2]string{around("fby(1,2)", 63, "2"), "1 2 1 2"},                   // 0, least, 0, least
		[2]string{around("fby(1,2)", 64, "2"), "1 1 1 1"},                   // 0
		[2]string{around("fby(1,2)", 8, "512"), "1 1 1 1"},                  // 2^72 is 0
		[2]string{around("hold(1,2,1000)", 63, "2"), "1 1 1 1"},             // least is below k
		[2]string{around("hold(1,2,1000)", 62, "2"), "1 2 1 1 1 2"},         // 2^62, least, -2^62, 0, 2^62
		[2]string{around("fby(1,hold(3,4,2))", 63, "2"), "1 4 1 4"},         // ahead of the least the most
		[2]string{around("fby(1,hold(3,4,2))", 7, "512"), "1 4 1 4"},        // 2^63 is the least
		[2]string{around("hold(1,2,2)", 20, "1000"), "1 2 2 2 2 2 2 2 1 1"}, // 2^60 times 5^60, that leaves 2^60
	)
}

func TestP5NoSuchFlowOrInstant(t *testing.T) {
	p := compiled(t, "input x:int every 1;input b:bool every 1;a:int=x;")
	good := [][]int64{make([]int64, 401), nil}
	for _, ins := range [][][]int64{good, nil, {{1}}, {{1}, {2}}, {nil, nil, nil}} {
		for _, flow := range []int{-1, 3, 4, most, least} {
			for _, n := range []int{0, 1, 400, -1, 401, most, least} {
				if v, err := p.Meaning(flow, ins, n); v != 0 || err != mill.ErrFlow {
					t.Errorf("Meaning(%d, %v, %d): %d, %v", flow, ins, n, v, err)
				}
			}
		}
		for _, flow := range []int{0, 1, 2} {
			for _, n := range []int{-1, 401, 402, 2000, most, least} {
				if v, err := p.Meaning(flow, ins, n); v != 0 || err != mill.ErrFlow {
					t.Errorf("Meaning(%d, %v, %d): %d, %v", flow, ins, n, v, err)
				}
			}
		}
	}
	good[0][0], good[0][400] = 5, 6
	for n, want := range map[int]int64{0: 5, 400: 6} {
		for _, flow := range []int{0, 2} {
			if v, err := p.Meaning(flow, good, n); v != want || err != nil {
				t.Errorf("Meaning(%d, .., %d): %d, %v, want %d", flow, n, v, err, want)
			}
		}
	}
}

func TestP5NoProgram(t *testing.T) {
	var none *mill.Program
	for _, p := range []*mill.Program{none, {}, compiled(t, ""), compiled(t, "# nothing")} {
		for _, ins := range [][][]int64{nil, {}, {{1}}} {
			if v, err := p.Meaning(0, ins, 0); v != 0 || err != mill.ErrFlow {
				t.Errorf("a flow of no program: %d, %v", v, err)
			}
		}
	}
}

func TestP5Lists(t *testing.T) {
	p := compiled(t, "input x:int every 1;a:int=x;input b:bool every 1;output b;input y:int every 2;c:int=y;d:bool=b;")
	for _, ins := range [][][]int64{
		nil, {}, {{1}}, {{1}, {1}}, {{1}, {1}, {1}, {1}}, {{1}, {1}, {1}, nil}, make([][]int64, 100),
		{{1}, {2}, {1}}, {{1}, {-1}, {1}}, {{1}, {most}, {1}}, {{1}, {least}, {1}}, {{1}, {256}, {1}},
		{{1}, {0, 1, 1, 0, 2}, {1}}, {{1}, append(make([]int64, 3000), 2), {1}},
	} {
		for flow := range p.Flows() {
			if v, err := p.Meaning(flow, ins, 0); v != 0 || err != mill.ErrInputs {
				t.Errorf("Meaning(%d, %.60v, 0): %d, %v", flow, ins, v, err)
			}
		}
	}
	ins := [][]int64{{5, 6}, {1, 0}, {7}}
	for flow, want := range []string{"5 6 -", "5 6 -", "1 0 -", "7 - -", "7 - -", "1 0 -"} {
		if got := means(t, p, flow, ins, 3); got != want {
			t.Errorf("flow %d means %s, want %s", flow, got, want)
		}
	}
}

// byName: the number of a flow.
func byName(t *testing.T, p *mill.Program, name string) int {
	t.Helper()
	flow := slices.IndexFunc(p.Flows(), func(f mill.Flow) bool { return f.Name == name })
	if flow < 0 {
		t.Fatalf("no flow %s", name)
	}
	return flow
}

type needed struct {
	flow string
	ins  [][]int64
	want string
}

func meansBy(t *testing.T, p *mill.Program, cases ...needed) {
	t.Helper()
	for _, c := range cases {
		got := means(t, p, byName(t, p, c.flow), c.ins, len(strings.Fields(c.want)))
		if got != c.want {
			t.Errorf("%s by %v means %s, want %s", c.flow, c.ins, got, c.want)
		}
	}
}

// What an input's list must have: what is asked for, and no more.
func TestP5WhatIsNeeded(t *testing.T) {
	p := compiled(t, `input x:int every 2; input b:bool every 2; input y:int every 4;
		timesnull:int=x*0; nullby:int=0/x; least:int=min(0,x);
		andno:bool=false and b; oryes:bool=true or b; same:bool=b==b;
		yes:int=if true then x else 0; no:int=if true then 0 else x; test:int=if b then 1 else 1;
		all:int=if b then x else -x;
		delay:int=fby(1,x); delays:int=fby(0,delay)+delay; slow:int=under(x,2); fast:int=hold(1,y,2);
		back:int=hold(3,slow,2)+under(hold(4,x,2),2);`)
	meansBy(t, p,
		needed{"x", [][]int64{{4, 5}, nil, nil}, "4 5 -"},
		needed{"b", [][]int64{nil, {1, 0}, nil}, "1 0 -"},
		needed{"y", [][]int64{nil, nil, {6}}, "6 -"},
		needed{"timesnull", [][]int64{nil, {1}, {1}}, "-"},
		needed{"timesnull", [][]int64{{9}, nil, nil}, "0 -"},
		needed{"nullby", [][]int64{nil, {1}, {1}}, "-"},
		needed{"least", [][]int64{nil, {1}, {1}}, "-"},
		needed{"andno", [][]int64{{1}, nil, {1}}, "-"},
		needed{"andno", [][]int64{nil, {1}, nil}, "0 -"},
		needed{"oryes", [][]int64{{1}, nil, {1}}, "-"},
		needed{"oryes", [][]int64{nil, {0}, nil}, "1 -"},
		needed{"same", [][]int64{{1}, nil, {1}}, "-"},
		needed{"yes", [][]int64{nil, {1}, {1}}, "-"},
		needed{"yes", [][]int64{{7}, nil, nil}, "7 -"},
		needed{"no", [][]int64{nil, {1}, {1}}, "-"},
		needed{"no", [][]int64{{7}, nil, nil}, "0 -"},
		needed{"test", [][]int64{{1}, nil, {1}}, "-"},
		needed{"test", [][]int64{nil, {0}, nil}, "1 -"},
		needed{"all", [][]int64{{1}, nil, nil}, "-"},
		needed{"all", [][]int64{nil, {0}, nil}, "-"},
		needed{"all", [][]int64{{3, 4, 5}, {0, 1}, nil}, "-3 4 -"},
		needed{"delay", [][]int64{nil, nil, nil}, "1 -"},
		needed{"delay", [][]int64{{7}, nil, nil}, "1 7 -"},
		needed{"delays", [][]int64{nil, nil, nil}, "1 -"},
		needed{"delays", [][]int64{{5}, nil, nil}, "1 6 -"},
		needed{"delays", [][]int64{{5, 6}, nil, nil}, "1 6 11 -"},
		needed{"slow", [][]int64{{7, 8}, nil, nil}, "7 -"},
		needed{"slow", [][]int64{{7, 8, 9}, nil, nil}, "7 9 -"},
		needed{"fast", [][]int64{nil, nil, nil}, "1 1 -"},
		needed{"fast", [][]int64{nil, nil, {7}}, "1 1 7 7 -"},
		needed{"back", [][]int64{nil, nil, nil}, "7 -"},
		needed{"back", [][]int64{{5}, nil, nil}, "7 8 -"},
		needed{"back", [][]int64{{5, 6}, nil, nil}, "7 8 11 -"},
		needed{"back", [][]int64{{5, 6, 7}, nil, nil}, "7 8 11 12 -"},
		needed{"back", [][]int64{{5, 6, 7, 8}, nil, nil}, "7 8 11 12 15 -"},
	)
}

// counted: a list of 0, 1, 2, ..
func counted(length int) []int64 {
	list := make([]int64, length)
	for i := range list {
		list[i] = int64(i)
	}
	return list
}

// 3 times 667 is 2001, 7 times 286 is 2002.
func TestP5InstantsAbove2000(t *testing.T) {
	ins := [][]int64{counted(4000), {10, 11, 12, 13, 14, 15}}
	at := func(text string, n int, want int64, wantErr error) {
		t.Helper()
		p := compiled(t, "input x:int every 1;input y:int every 1000;"+text)
		v, err := p.Meaning(len(p.Flows())-1, ins, n)
		if v != want || err != wantErr {
			t.Errorf("%s at %d: %d, %v, want %d, %v", text, n, v, err, want, wantErr)
		}
	}
	there := func(text string, n int, want int64) { t.Helper(); at(text, n, want, nil) }
	missing := func(text string, n int) { t.Helper(); at(text, n, 0, mill.ErrInputs) }
	there("a:int=under(x,5);", 400, 2000)
	missing("a:int=under(x,6);", 334)
	there("a:int=under(x,1000);", 2, 2000)
	missing("a:int=under(x,1000);", 3)
	there("a:int=under(x,667);", 2, 1334)
	missing("a:int=under(x,667);", 3)
	there("c:int=x;a:int=under(c,1000);", 2, 2000)
	missing("c:int=x;a:int=under(c,667);", 3)
	there("c:int=under(x,40);a:int=under(c,50);", 1, 2000)
	missing("c:int=under(x,40);a:int=under(c,100);", 1)
	// an expression may be asked for beyond 2000, a flow may not
	there("a:int=under(fby(0,x),667);", 3, 2000)
	missing("c:int=fby(0,x);a:int=under(c,667);", 3)
	there("a:int=under(fby(0,fby(0,x)),286);", 7, 2000)
	missing("c:int=fby(0,x);a:int=under(fby(0,c),286);", 7)
	missing("a:int=under(fby(0,x),286);", 7)
	there("a:int=under(hold(-1,y,1000),667);", 3, 11)
	there("c:int=hold(-1,y,1000);a:int=under(c,1000);", 2, 11)
	missing("c:int=hold(-1,y,1000);a:int=under(c,667);", 3)
	there("a:int=under(hold(-1,y,1000),500);", 13, 15)
	missing("a:int=under(hold(-1,y,1000),500);", 14)
	// literals are there at all instants
	there("a:int=x*0+under(fby(5,6),1000);", 400, 6)
	missing("a:int=under(x*0+fby(5,6),667);", 3)
	ins[0] = ins[0][:2000]
	there("a:int=under(x,667);", 2, 1334)
	missing("a:int=under(x,1000);", 2)
	missing("a:int=under(fby(0,x),667);", 3)
}

// chain: so many flows, each made of the one ahead by a pattern with ? for it.
func chain(first, pattern string, length int) string {
	text := "input x:int every 1;f0:int=" + first + ";"
	for i := 1; i < length; i++ {
		text += fmt.Sprintf("f%d:int=%s;", i, strings.ReplaceAll(pattern, "?", fmt.Sprintf("f%d", i-1)))
	}
	return text
}

// What many ways lead to is worked out once, and looked for once if it is not
// there: else these would not end in anybody's life.
func TestP5EndsSoon(t *testing.T) {
	for _, c := range []struct {
		text string
		x    []int64
		n    int
		want int64
		err  error
	}{
		{chain("x", "?+?", 50), []int64{3}, 0, 3 << 49, nil},
		{chain("x", "?+?", 50), nil, 0, 0, mill.ErrInputs},
		{chain("x", "max(?,?)", 50), counted(2000), 400, 400, nil},
		{chain("x", "if ?>0 then ? else ?", 40), counted(401), 400, 400, nil},
		{chain("x", "if ?>0 then ? else ?", 40), nil, 400, 0, mill.ErrInputs},
		{chain("x", "if ?>0 then ? else ?", 40), []int64{1}, 400, 0, mill.ErrInputs},
		{chain("x", "fby(1,?)+fby(0,?)", 30), counted(401), 400, 371 << 29, nil},
		{chain("fby(1,f0)+fby(0,f0)+x", "?", 2), make([]int64, 401), 63, -1 << 63, nil},
		{chain("fby(1,f0)+fby(0,f0)+x", "?", 2), make([]int64, 401), 400, 0, nil},
		{chain("fby(1,f0)+fby(0,f0)+x", "?", 2), make([]int64, 400), 400, 0, mill.ErrInputs},
		// a ring, round which each value goes: through all flows at all instants
		{chain("fby(7,f49)+x", "fby(0,?)", 50) + "u:int=under(f49,1000);", counted(2001), 2, 40 * (1 + 1951) / 2, nil},
		{chain("fby(7,f49)+x", "?", 50) + "u:int=under(f49,1000);", counted(2001), 2, 7 + 2000*2001/2, nil},
		{chain("fby(7,f49)+x", "?", 50) + "u:int=under(f49,1000);", counted(2000), 2, 0, mill.ErrInputs},
		{chain("fby(7,f49)+x", "?+1", 50) + "u:int=under(f49,1000);", make([]int64, 2001), 2, 7 + 2001*49, nil},
	} {
		p := compiled(t, c.text)
		v, err := p.Meaning(len(p.Flows())-1, [][]int64{c.x}, c.n)
		if v != c.want || err != c.err {
			t.Errorf("%.90s.. at %d: %d, %v, want %d, %v", c.text, c.n, v, err, c.want, c.err)
		}
	}
}

// An answer hangs on what is asked alone, not on what was asked ahead of it.
func TestP5NothingIsKept(t *testing.T) {
	p := compiled(t, "input x:int every 1;input b:bool every 1;a:int=x+fby(0,a);c:bool=b xor fby(false,c);")
	ones, twos := [][]int64{{1, 1, 1, 1, 1, 1}, {1, 1, 0}}, [][]int64{{2, 2, 2}, {0, 0, 0, 1}}
	for range 2 {
		meansBy(t, p,
			needed{"a", ones, "1 2 3 4 5 6 -"}, needed{"a", twos, "2 4 6 -"},
			needed{"c", ones, "1 0 0 -"}, needed{"c", twos, "0 0 0 1 -"})
	}
	if v, err := p.Meaning(2, ones, 5); v != 6 || err != nil {
		t.Errorf("the last one first: %d, %v", v, err)
	}
	ones[0][0] = 100
	if v, err := p.Meaning(2, ones, 5); v != 105 || err != nil {
		t.Errorf("by a list that has changed: %d, %v", v, err)
	}
}

func TestP5ListsAreOnlyRead(t *testing.T) {
	p := compiled(t, "input x:int every 1;input b:bool every 1;a:int=x+fby(0,a);c:bool=b xor fby(false,c);")
	ins := [][]int64{{1, 2, 3, 77, 77, 77}, {1, 0, 1, 77, 77}}
	ins[0], ins[1] = ins[0][:3], ins[1][:3]
	for flow := range p.Flows() {
		means(t, p, flow, ins, 5)
	}
	for i, want := range []string{"[1 2 3 77 77 77]", "[1 0 1 77 77]"} {
		if got := fmt.Sprint(ins[i][:cap(ins[i])]); got != want || len(ins[i]) != 3 {
			t.Errorf("list %d is now %s", i, got)
		}
	}
}

func TestP5FaultsFromOutside(t *testing.T) {
	p := compiled(t, "input x:int every 1;a:int=x;")
	for _, c := range []struct {
		flow, n int
		ins     [][]int64
		v       int64
		want    plain.Fault
	}{
		{1, 0, [][]int64{{4}}, 4, plain.Fault{}},
		{2, 0, nil, 0, plain.Fault{E: 11, At: -1}},
		{1, 401, nil, 0, plain.Fault{E: 11, At: -1}},
		{1, 0, nil, 0, plain.Fault{E: 12, At: -1}},
		{1, 1, [][]int64{{4}}, 0, plain.Fault{E: 12, At: -1}},
	} {
		if v, f := plain.Meaning(p, c.flow, c.ins, c.n); v != c.v || f != c.want {
			t.Errorf("Meaning(%d, %v, %d): %d, %v, want %d, %v", c.flow, c.ins, c.n, v, f, c.v, c.want)
		}
	}
}
