package mill_test

import (
	"errors"
	"fmt"
	"slices"
	"strings"
	"testing"

	"ratemill/mill"
)

const given = "input x:int every 2;input b:bool every 2;input y:int every 3;"

// refused holds Compile to an error at the place where a ^ stands in the text;
// at 0, if none stands there.
func refused(t *testing.T, err error, texts ...string) {
	t.Helper()
	for _, marked := range texts {
		at := max(strings.Index(marked, "^"), 0)
		text := strings.Replace(marked, "^", "", 1)
		p, got := mill.Compile(text)
		d, ok := got.(*mill.Diag)
		if !ok || d.Err != err || d.At != at || p != nil || !errors.Is(got, err) {
			t.Errorf("Compile(%q): program %t, %v; want %v at %d", marked, p != nil, got, err, at)
		}
	}
}

func refusedBehind(t *testing.T, err error, texts ...string) {
	t.Helper()
	for _, text := range texts {
		refused(t, err, given+text)
	}
}

func compiled(t *testing.T, text string) *mill.Program {
	t.Helper()
	p, err := mill.Compile(text)
	if err != nil || p == nil {
		t.Fatalf("Compile(%q): program %t, %v", text, p != nil, err)
	}
	return p
}

// told spells flows and tasks out: name/type/period, i and o; period: flows.
func told(p *mill.Program) string {
	var out []string
	flows := p.Flows()
	for _, f := range flows {
		s := fmt.Sprintf("%s/%s/%d", f.Name, []string{"int", "bool"}[f.Type], f.Period)
		if f.Input {
			s += "i"
		}
		if f.Output {
			s += "o"
		}
		out = append(out, s)
	}
	for _, task := range p.Tasks() {
		s := fmt.Sprintf("%d:", task.Period)
		for _, f := range task.Order {
			s += flows[f].Name
		}
		out = append(out, s)
	}
	return strings.Join(out, " ")
}

func tells(t *testing.T, text, want string) {
	t.Helper()
	if got := told(compiled(t, text)); got != want {
		t.Errorf("%q: %s, want %s", text, got, want)
	}
}

func TestP4ErrorsOfParse(t *testing.T) {
	refused(t, mill.ErrToken, "a:int=^01;", "a:int=q;^A", "x:int=1;x:int=1;^?")
	refused(t, mill.ErrSyntax, "a:int=q;a:int=^;", "a:int=q^", "input x:int every ^0;", "output q,q^")
	refused(t, mill.ErrMany, strings.Repeat("output a;", 60)+"^output a;")
	refused(t, mill.ErrLong, strings.Repeat("a:int=1+2+3;", 60)+"^a")
	if p, err := mill.Compile(strings.Repeat(" ", 4001)); p != nil || err != mill.ErrLong {
		t.Errorf("of 4001 bytes: %v", err)
	}
	compiled(t, strings.Repeat(" ", 4000))
}

func TestP4Twice(t *testing.T) {
	refusedBehind(t, mill.ErrTwice,
		"^x:int=1;",
		"a:int=x;^a:int=x;",
		"a:int=x;^a:bool=b;",
		"input ^b:bool every 2;",
		"input z:int every 2;^z:int=x;",
		"a:int=x;input ^a:int every 2;",
		"output x,^x;",
		"output x;output ^x;",
		"output x,y;output b,^y;",
		"output a,^a;a:int=x;",
		// the second time, not the third; the first name in the text
		"a:int=x;^a:int=x;a:int=x;",
		"output x,^x,x;",
		"a:int=x;c:int=x;^c:int=x;a:int=x;",
		"output x,^x;a:int=x;a:int=x;",
		"a:int=x;^a:int=x;output x,x;",
		"output z,y,^y,z;",
		// a name of a flow and one in outputs are not one for the second time
		"output a;a:int=x;output x;output c,^a;c:int=x;",
	)
	tells(t, "output a;input a:int every 1;", "a/int/1io")
	tells(t, "input a:int every 1;c:int=a;output c,a;", "a/int/1io c/int/1o 1:c")
}

func TestP4NameOfNoFlow(t *testing.T) {
	refusedBehind(t, mill.ErrName,
		"a:int=^q;",
		"a:int=x+^q+r;",
		"a:int=^q+r;",
		"a:int=x+(r1+(x+(^q)));r1:int=x;",
		"a:int=-^q;",
		"a:bool=not ^q;",
		"a:int=fby(1,^q);",
		"a:int=under(^q,2);",
		"a:int=hold(1,^q,2);",
		"a:int=min(x,^q);",
		"a:int=max(^q,p);",
		"a:int=if ^q then r else s;",
		"a:int=if b then ^r else s;",
		"a:int=if b then x else ^s;",
		"a:int=x;c:int=^d;e:int=f;",
		"output ^z;",
		"output x,^z,w;",
		"output x;output ^w;",
		"output ^z;a:int=q;",
		"a:int=^q;output z;",
		"output x;a:int=^q;output z;",
		// near to a name
		"output ^a;aa:int=x;",
		"output ^aa;a:int=x;",
	)
	tells(t, "output c,a;a:int=c+x;input x:int every 3;c:int=x;", "a/int/3o x/int/3i c/int/3o 3:ca")
}

func TestP4TypesOfOperands(t *testing.T) {
	for _, sign := range []string{"+", "-", "*", "/", "%"} {
		refusedBehind(t, mill.ErrType, "a:int=x^"+sign+"b;", "a:int=b ^"+sign+" x;", "a:int=b^"+sign+"b;", "a:int=1^"+sign+"true;", "a:bool=x "+sign+"(x^"+sign+"b);", "^a:bool=x"+sign+"x;")
		tells(t, "input x:int every 2;a:int=x"+sign+"x;", "x/int/2i a/int/2 2:a")
	}
	for _, sign := range []string{"<", "<=", ">", ">="} {
		refusedBehind(t, mill.ErrType, "a:bool=x^"+sign+"b;", "a:bool=b^"+sign+"x;", "a:bool=b^"+sign+"b;", "^a:int=x"+sign+"x;")
		tells(t, "input x:int every 2;a:bool=x"+sign+"x;", "x/int/2i a/bool/2 2:a")
	}
	for _, sign := range []string{"==", "!="} {
		refusedBehind(t, mill.ErrType, "a:bool=x^"+sign+"b;", "a:bool=b^"+sign+"x;", "^a:int=x"+sign+"x;", "^a:int=b"+sign+"b;")
		tells(t, "input x:int every 2;a:bool=x"+sign+"x;c:bool=a"+sign+"a;", "x/int/2i a/bool/2 c/bool/2 2:ac")
	}
	for _, sign := range []string{"and", "or", "xor"} {
		refusedBehind(t, mill.ErrType, "a:bool=x ^"+sign+" b;", "a:bool=b ^"+sign+" x;", "a:bool=x ^"+sign+" x;", "^a:int=b "+sign+" b;")
		tells(t, "input x:bool every 2;a:bool=x "+sign+" x;", "x/bool/2i a/bool/2 2:a")
	}
	for _, word := range []string{"min", "max"} {
		refusedBehind(t, mill.ErrType, "a:int=^"+word+"(x,b);", "a:int=x+^"+word+"(b,x);", "a:bool=^"+word+"(b,b);", "^a:bool="+word+"(x,x);")
		tells(t, "input x:int every 2;a:int="+word+"(x,1);", "x/int/2i a/int/2 2:a")
	}
}

func TestP4TypesOfTheOthers(t *testing.T) {
	refusedBehind(t, mill.ErrType,
		"a:int=^-b;", "a:int=x-^-b;", "a:int=-^-b;", "^a:bool=-x;",
		"a:bool=^not x;", "a:bool=b and ^not 1;", "a:bool=not ^not x;", "^a:int=not b;",
		"a:int=^if x then x else x;",
		"a:int=^if b then x else b;",
		"a:int=^if b then b else x;",
		"a:int=^if x then b else x;",
		"^a:int=if b then b else b;",
		"^a:bool=if b then x else x;",
		"a:int=x+(^if x then x else x);",
		"a:int=^fby(true,x);", "a:bool=^fby(1,b);", "a:bool=^fby(-1,b);", "a:int=x+^fby(false,x);",
		"^a:int=fby(true,b);", "^a:bool=fby(-1,x);",
		"a:int=^hold(true,x,2);", "a:bool=^hold(0,b,2);", "a:bool=^hold(-1,b,2);",
		"^a:int=hold(true,b,2);", "^a:bool=hold(1,x,2);",
		"^a:int=under(b,2);", "^a:bool=under(x,2);", "a:int=x^+under(b,2);",
		"^a:int=b;", "^a:bool=x;", "^a:int=true;", "^a:bool=0;",
	)
	tells(t, "input b:bool every 2;a:bool=fby(true,under(hold(false,if b then b else not b,2),2));", "b/bool/2i a/bool/2 2:a")
	tells(t, "input x:int every 2;a:int=fby(-1,under(hold(-2,if true then x else -x,2),2));", "x/int/2i a/int/2 2:a")
}

// Which fault of types is met first.
func TestP4TypesFromWithinOutward(t *testing.T) {
	refusedBehind(t, mill.ErrType,
		"a:int=(x^+b)*(b+x);",
		"a:int=(x+x)*(b^+x);",
		"a:int=(b^*1)+b;",
		"a:int=true+(x^*b);",
		"a:bool=(b^<b)<(x and x);",
		"a:int=if x then x^+b else b+1;",
		"a:int=if x then x else b^+1;",
		"a:int=if x^+b then x+b else x+b;",
		"a:int=fby(true,x^+b);",
		"a:int=hold(true,^-b,2);",
		"a:int=min(x^+b,-b);",
		"a:int=min(b,^-b);",
		"a:int=-(x^+b);",
		"a:bool=not(x ^and b);",
		"a:bool=under(x^+b,2);",
		// the equation's own type behind its expression, ahead of the next equation
		"a:bool=x^+b;c:int=-b;",
		"^a:bool=x+x;c:int=-b;",
		"a:int=x;^c:int=b;d:int=b;",
		"output c;^c:int=b;",
		// a name's type is what its flow is declared to be, right or wrong
		"a:int=c^+x;c:bool=x;",
	)
}

func TestP4Free(t *testing.T) {
	refusedBehind(t, mill.ErrFree,
		"^a:int=1;",
		"^a:bool=true;",
		"^a:int=fby(0,a+1);",
		"^a:int=a;",
		"^a:int=c;c:int=a;",
		"^a:int=under(1,2);",
		"^a:int=hold(1,2,3);",
		"^a:int=min(1,-2);",
		"^a:int=if true then 1 else 2;",
		// what would be no whole number from 1 to 1000000 is open
		"^a:int=hold(1,y,2);",
		"^a:int=hold(1,x,3);",
		"^a:int=hold(1,x,4);",
		"^a:int=hold(1,hold(1,x,2),2);",
		"^a:int=under(under(x,1000),1000);",
		"^a:int=1+hold(1,y,2);",
		// the first one that is not known at the end
		"a:int=x;^c:int=1;d:int=2;",
		"a:int=c;c:int=x;^d:int=e;e:int=fby(0,d);",
		// ahead of periods that differ, and of cycles
		"a:int=x+y;^c:int=1;",
		"a:int=x+a;^c:int=1;",
	)
}

func TestP4PeriodsThatDiffer(t *testing.T) {
	refusedBehind(t, mill.ErrPeriod,
		"a:int=x^+y;",
		"a:int=y^*x;",
		"a:bool=y^<x;",
		"a:bool=b ^and y==1;",
		"a:int=^min(x,y);", "a:int=^max(1+y,x);",
		"a:int=x;c:int=a^+y;",
		"a:int=c^+y;c:int=x;",
		"a:int=^if b then x else y;",
		"a:int=^if b then y else x;",
		"a:int=^if y==1 then x else x;",
		"a:int=^if true then x else y;",
		"a:int=^if b then 1 else y;",
		"a:int=^if y==1 then 1 else x;",
		"a:int=hold(1,x,2)^+x;",
		"a:int=x^+under(x,2);",
		"a:int=fby(0,x)^-y;",
		"a:int=fby(0,x^-y);",
		"a:int=1+x^-y;",
		"a:int=under(x,3)^+y;",
		"a:int=under(x^+y,2);", "a:int=hold(0,x^+y,2);",
		// from within outward, the left ahead of the right, equations in their order
		"a:int=(x^+y)*(y+x);",
		"a:int=x+(y^+x);",
		"a:int=(x^+y)+y;",
		"a:int=if x^==y then y else x+y;",
		"a:int=if b then y else x^+y;",
		"a:int=x^+y;c:int=y+x;",
		"a:int=x;c:int=y^+x;d:int=x+y;",
		// what was found by one operand, when another was not known yet
		"a:int=c^+x;c:int=y;",
		"a:int=c^+x;c:int=under(a,2);",
	)
}

func TestP4PeriodsOutOfBounds(t *testing.T) {
	refusedBehind(t, mill.ErrPeriod,
		"a:int=x+^hold(1,x,4);",
		"a:int=x+^hold(1,y,2);",
		"a:int=y+^hold(1,y,2);",
		"a:int=^hold(1,y,2)+y;",
		"a:int=x+^under(under(x,1000),1000);",
		"a:int=x+under(^under(under(x,1000),1000),2);",
		"a:int=x+^hold(1,hold(0,x,2),2);",
		"a:int=x+hold(1,^hold(0,x,4),2);",
		"a:int=if b then ^hold(1,x,3) else x;",
		"a:int=c+^hold(1,c,3);c:int=x;",
		"a:int=^under(c,1000)+x;c:int=under(x,1000);",
		"a:int=x+^under(c,1000);c:int=under(x,1000);",
		// within ahead of what is around it
		"a:int=(x+^hold(1,y,2))*y;",
		"a:int=(x^+y)*hold(1,y,2);",
	)
	tells(t, "input x:int every 1000;a:int=under(x,1000);", "x/int/1000i a/int/1000000 1000000:a")
	tells(t, "input x:int every 1000000;a:int=hold(0,x,1000);c:int=hold(0,a,1000);", "x/int/1000000i a/int/1000 c/int/1 1:c 1000:a")
	refused(t, mill.ErrFree, "input x:int every 1001;^a:int=under(x,1000);", "input x:int every 500001;^a:int=under(x,2);",
		"input x:int every 9901;^a:int=under(x,101);")
	tells(t, "input x:int every 500000;a:int=under(x,2);", "x/int/500000i a/int/1000000 1000000:a")
}

func TestP4CommonPeriod(t *testing.T) {
	refused(t, mill.ErrPeriod,
		"input x:int every 1000;input y:int every 1001;",
		"input x:int every 101;input y:int every 9901;",
		"input x:int every 999999;input y:int every 1000000;",
		"input x:int every 1000000;input y:int every 3;",
		"input x:int every 500000;a:int=under(x,2);input y:int every 3;",
		"input x:int every 999999;a:int=hold(0,x,3);c:int=under(a,2);",
		"input z:int every 7;input w:int every 11;input v:int every 13;input u:int every 17;input t:int every 19;input s:int every 23;",
	)
	tells(t, "input x:int every 1000;input y:int every 999;", "x/int/1000i y/int/999i")
	tells(t, "input x:int every 64;input y:int every 15625;", "x/int/64i y/int/15625i")
	tells(t, "input x:int every 1000000;input y:int every 1000000;input z:int every 1;", "x/int/1000000i y/int/1000000i z/int/1i")
	// ahead of cycles, behind all else
	refused(t, mill.ErrPeriod, "input x:int every 1000;input y:int every 1001;a:int=a+x;")
	refused(t, mill.ErrPeriod, "input x:int every 1000;input y:int every 1001;a:int=x^+y;")
	refused(t, mill.ErrFree, "input x:int every 1000;input y:int every 1001;^a:int=1;")
}

// So many inputs of great periods that their product outgrows any int.
func TestP4CommonPeriodOfMany(t *testing.T) {
	text := ""
	for i := range 60 {
		text += fmt.Sprintf("input x%d:int every %d;", i, 999999-i)
	}
	refused(t, mill.ErrPeriod, text)
}

func TestP4Cycle(t *testing.T) {
	refusedBehind(t, mill.ErrCycle,
		"^a:int=x+a;",
		"^a:int=x+c;c:int=x+a;",
		"a:int=x+c;^c:int=x+d;d:int=x+c;",
		"a:int=x;^c:int=d;d:int=c+x;",
		"a:int=x+c;d:int=a;^c:int=x-c;",
		"^a:int=-a*x;", "^a:bool=not a and b;",
		"^a:int=if b then a else x;", "^a:int=if a>x then 1 else x;", "^a:int=if b then 1 else a;",
		"^a:int=min(x,a);", "^a:int=max(a,x);",
		"^a:int=fby(0,a)+x+a;",
		"^a:int=hold(0,under(a,2),2)+x+a;",
		"^a:int=x+c;c:int=x+d;d:int=x+e;e:int=x+a;",
		"^a:int=x+c+d;c:int=x;d:int=c+a;",
		"c:int=fby(0,a)+x;^a:int=x+d;d:int=x+c+a;",
		// two cycles: the first in the text
		"z:int=x+a;^d:int=x+d;a:int=x+c;c:int=x+a;",
	)
	tells(t, given+"a:int=x+fby(0,a);", "x/int/2i b/bool/2i y/int/3i a/int/2 2:a")
	tells(t, given+"a:int=x+fby(0,1+c);c:int=x+a;", "x/int/2i b/bool/2i y/int/3i a/int/2 c/int/2 2:ac")
	tells(t, given+"a:int=x+under(c,2);c:int=hold(0,a,2);", "x/int/2i b/bool/2i y/int/3i a/int/2 c/int/1 1:c 2:a")
	tells(t, given+"a:int=x+under(hold(0,-a,2),2);", "x/int/2i b/bool/2i y/int/3i a/int/2 2:a")
	tells(t, given+"a:int=x+fby(0,if b then a else x);", "x/int/2i b/bool/2i y/int/3i a/int/2 2:a")
	tells(t, given+"a:int=x+fby(0,fby(0,c));c:int=a+d;d:int=a;", "x/int/2i b/bool/2i y/int/3i a/int/2 c/int/2 d/int/2 2:adc")
}

// Texts in which several errors would fit.
func TestP4WhichIsFirst(t *testing.T) {
	refusedBehind(t, mill.ErrTwice, "a:int=q;output z;^a:int=b;", "a:int=q+b;c:int=1;d:int=x+y;e:int=e;output x,^x;")
	refusedBehind(t, mill.ErrName, "a:int=b+x;c:int=^q;", "a:int=b;c:int=1;output ^q;", "a:int=x+y;e:int=e+x;output ^q;")
	refusedBehind(t, mill.ErrType, "a:int=1;^c:int=b;", "a:int=x+y;c:int=a+a;^d:bool=a;", "e:int=x+e;^c:int=b;", "a:int=1;c:int=hold(0,y,2)^+b;")
	refusedBehind(t, mill.ErrFree, "e:int=x+e;d:int=x+y;^a:int=1;")
	refusedBehind(t, mill.ErrPeriod, "e:int=x+e;d:int=x^+y;", "e:int=e+x^+y;")
}

// Periods that are known only through later equations.
func TestP4PeriodsInRounds(t *testing.T) {
	tells(t, "a:int=c;c:int=d;d:int=e;e:int=x;input x:int every 5;", "a/int/5 c/int/5 d/int/5 e/int/5 x/int/5i 5:edca")
	tells(t, "a:int=under(c,2);c:int=under(d,3);d:int=x;input x:int every 5;", "a/int/30 c/int/15 d/int/5 x/int/5i 5:d 15:c 30:a")
	tells(t, "a:int=hold(0,c,6);c:int=under(d,3);d:int=hold(1,x,5)+fby(0,d);input x:int every 20;", "a/int/2 c/int/12 d/int/4 x/int/20i 2:a 4:d 12:c")
	tells(t, "a:int=1+fby(0,c);c:int=2+fby(0,a)+x;input x:int every 7;", "a/int/7 c/int/7 x/int/7i 7:ac")
	tells(t, "a:bool=1<2 or c;c:bool=if true then false else d;d:bool=fby(true,x==0);input x:int every 9;", "a/bool/9 c/bool/9 d/bool/9 x/int/9i 9:dca")
	// a literal goes with every period
	tells(t, "input x:int every 3;a:int=x+under(1,2)+hold(1,2,3)+fby(3,4)+min(5,6);", "x/int/3i a/int/3 3:a")
	// 59 equations, each of which waits for the next
	text, want := "", "58:"
	for i := range 58 {
		text += fmt.Sprintf("a%d:int=a%d;", i, i+1)
		want = strings.Replace(want, ":", fmt.Sprintf(":a%d", i), 1)
	}
	text += "a58:int=x;input x:int every 58;"
	want = strings.Replace(want, ":", ":a58", 1)
	if got := told(compiled(t, text)); !strings.HasSuffix(got, " x/int/58i "+want) {
		t.Errorf("a row of 59: %s", got)
	}
}

func TestP4Order(t *testing.T) {
	for _, c := range []struct{ text, want string }{
		{"a:int=x;c:int=x;d:int=x;", "1:acd"},
		{"a:int=d+x;c:int=x;d:int=x;", "1:cda"},
		{"a:int=c+x;c:int=d+x;d:int=x;e:int=x;", "1:dcae"},
		{"e:int=a;a:int=x;d:int=c;c:int=a;", "1:aecd"},
		{"e:int=d;a:int=x;d:int=x;c:int=d;", "1:adec"},
		{"a:int=fby(0,c);c:int=fby(0,a)+x;", "1:ac"},
		{"a:int=x+fby(0,d)+c;c:int=x;d:int=x;", "1:cad"},
		// only needs of the same period count
		{"a:int=under(c,2);c:int=x;", "1:c 2:a"},
		{"a:int=under(c,2)+d;c:int=x;d:int=under(c,2);", "1:c 2:da"},
		{"a:int=hold(0,d,2)+x;c:int=under(x,2)+d;d:int=under(a,2);", "1:a 2:dc"},
		// rising periods, however they stand in the text
		{"a:int=under(x,10);c:int=under(x,9);d:int=x;e:int=under(x,2);", "1:d 2:e 9:c 10:a"},
		{"a:int=under(x,2);c:int=x;d:int=under(c,2)+a;e:int=c;", "1:ce 2:ad"},
		// a need twice
		{"a:int=c*c+c;c:int=x;", "1:ca"},
	} {
		got := told(compiled(t, "input x:int every 1;"+c.text))
		if _, tasks, _ := strings.Cut(got, " 1:"); "1:"+tasks != c.want {
			t.Errorf("%q: %s, want %s", c.text, got, c.want)
		}
	}
}

func TestP4Examples(t *testing.T) {
	refusedBehind(t, mill.ErrType, "a:int=x^+b;", "^a:int=b;")
	refusedBehind(t, mill.ErrFree, "^a:int=1;", "^a:int=hold(1,y,2);")
	refusedBehind(t, mill.ErrPeriod, "a:int=x^+y;", "a:int=hold(1,x,2)^+x;")
	refusedBehind(t, mill.ErrCycle, "^a:int=x+c;c:int=x+a;", "a:int=x+c;^c:int=x+d;d:int=x+c;")
	tells(t, "input x : int every 2; s : int = x + fby(0, s); u : int = under(s, 2); h : int = hold(7, u, 2) + s; output h;",
		"x/int/2i s/int/2 u/int/4 h/int/2o 2:sh 4:u")
}

func TestP4Nothing(t *testing.T) {
	for _, text := range []string{"", " # nothing\n"} {
		p := compiled(t, text)
		if len(p.Flows()) != 0 || len(p.Tasks()) != 0 {
			t.Errorf("%q: %s", text, told(p))
		}
	}
	tells(t, "input a:bool every 1000000;", "a/bool/1000000i")
	for _, p := range []*mill.Program{nil, {}} {
		if len(p.Flows()) != 0 || len(p.Tasks()) != 0 {
			t.Errorf("a program of nothing: %s", told(p))
		}
	}
}

// What the caller does to an answer changes no later one.
func TestP4AnswersAreNew(t *testing.T) {
	p := compiled(t, given+"a:int=x+c;c:int=x;d:int=y;output d;")
	want := told(p)
	for range 3 {
		flows, tasks := p.Flows(), p.Tasks()
		for i := range flows {
			flows[i] = mill.Flow{Name: "z", Period: 9}
		}
		for i := range tasks {
			for k := range tasks[i].Order {
				tasks[i].Order[k] = 99
			}
			_ = append(tasks[i].Order, 7)
			tasks[i] = mill.Task{Period: 77}
		}
		_ = append(flows, mill.Flow{Name: "w"})
		slices.Reverse(tasks)
		if got := told(p); got != want {
			t.Fatalf("%s, and then %s", want, got)
		}
	}
}
