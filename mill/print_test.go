package mill_test

import (
	"testing"

	"ratemill/mill"
)

// printed parses, prints, and reads what was printed again.
func printed(t *testing.T, text string) string {
	t.Helper()
	tree, err := mill.Parse(text)
	if err != nil {
		t.Fatalf("Parse(%q): %v", text, err)
	}
	out := mill.Print(tree)
	again, err := mill.Parse(out)
	if err != nil || mill.Print(again) != out {
		t.Errorf("%q was printed as %q, that reads otherwise: %v", text, out, err)
	}
	return out
}

func TestP3Items(t *testing.T) {
	for _, c := range []struct{ text, want string }{
		{"", ""},
		{" # nothing\n", ""},
		{"input x:int every 1;", "input x : int every 1;\n"},
		{"input  x\n:bool#\nevery 1000000 ;", "input x : bool every 1000000;\n"},
		{"output a;", "output a;\n"},
		{"output a,b , c;", "output a, b, c;\n"},
		{"abcdefghijkl:bool=true;", "abcdefghijkl : bool = true;\n"},
		{"output b;a:int=1;input x:int every 2;a:int=2;", "output b;\na : int = 1;\ninput x : int every 2;\na : int = 2;\n"},
	} {
		if got := printed(t, c.text); got != c.want {
			t.Errorf("%q is printed as %q, want %q", c.text, got, c.want)
		}
	}
}

func TestP3Expressions(t *testing.T) {
	for _, c := range []struct{ text, want string }{
		// brackets that need not stand
		{"((1))", "1"},
		{"((a)+(b))", "a + b"},
		{"(1+2)+3", "1 + 2 + 3"},
		{"(1*2)+(3*4)", "1 * 2 + 3 * 4"},
		{"(1*2)/3%4", "1 * 2 / 3 % 4"},
		{"(a or b)xor c", "a or b xor c"},
		{"(a and b)or(c and d)", "a and b or c and d"},
		{"(not a)and(not b)", "not a and not b"},
		{"(not a)or(not b)", "not a or not b"},
		{"not(a<b)", "not a < b"},
		{"not(not a)", "not not a"},
		{"not(-a)", "not -a"},
		{"-(-(1))", "--1"},
		{"(-a)*(-b)", "-a * -b"},
		{"(-a)+(-b)-(-c)", "-a + -b - -c"},
		{"(a+b)<(c*d)", "a + b < c * d"},
		{"(a<b)and(c<d)", "a < b and c < d"},
		{"if(a)then(b)else(c)", "if a then b else c"},
		{"if(if a then b else c)then(if d then e else f)else(if g then h else i)", "if if a then b else c then if d then e else f else if g then h else i"},
		{"if (a or b)then(c and d)else(not e)", "if a or b then c and d else not e"},
		{"min((a or b),(if a then b else c))", "min(a or b, if a then b else c)"},
		{"under((if a then b else c),2)", "under(if a then b else c, 2)"},
		{"fby(1,(not a))", "fby(1, not a)"},
		{"-(min(a,b))", "-min(a, b)"},
		{"not(fby(true,a))", "not fby(true, a)"},
		// brackets that must stand
		{"1+(2+3)", "1 + (2 + 3)"},
		{"1-(2-3)", "1 - (2 - 3)"},
		{"1*(2*3)", "1 * (2 * 3)"},
		{"1*(2+3)", "1 * (2 + 3)"},
		{"(1+2)*3", "(1 + 2) * 3"},
		{"1%(2/3)", "1 % (2 / 3)"},
		{"a and(b and c)", "a and (b and c)"},
		{"a or(b xor c)", "a or (b xor c)"},
		{"a xor(b or c)", "a xor (b or c)"},
		{"(a or b)and c", "(a or b) and c"},
		{"a and(b or c)", "a and (b or c)"},
		{"(a<b)<c", "(a < b) < c"},
		{"a<(b<c)", "a < (b < c)"},
		{"(a==b)!=(c>=d)", "(a == b) != (c >= d)"},
		{"(a and b)==c", "(a and b) == c"},
		{"(not a)==b", "(not a) == b"},
		{"a==(not b)", "a == (not b)"},
		{"(not a)+b", "(not a) + b"},
		{"not(a and b)", "not (a and b)"},
		{"-(a+b)", "-(a + b)"},
		{"-(a*b)", "-(a * b)"},
		{"-(a<b)", "-(a < b)"},
		{"-(not a)", "-(not a)"},
		{"(a<b)+(c<d)", "(a < b) + (c < d)"},
		{"(if a then b else c)or d", "(if a then b else c) or d"},
		{"a or(if a then b else c)", "a or (if a then b else c)"},
		{"not(if a then b else c)", "not (if a then b else c)"},
		{"-(if a then b else c)", "-(if a then b else c)"},
		{"(if a then b else c)<1", "(if a then b else c) < 1"},
		// numbers, constants and blanks
		{"0", "0"},
		{"9223372036854775807", "9223372036854775807"},
		{"fby(-0,x)", "fby(-0, x)"},
		{"fby( - 7 ,x)", "fby(-7, x)"},
		{"fby(-9223372036854775807,x)", "fby(-9223372036854775807, x)"},
		{"hold(false,x,1000)", "hold(false, x, 1000)"},
		{"hold(true , - x , 2)", "hold(true, -x, 2)"},
		{"under( x ,2 )", "under(x, 2)"},
		{"max(\n1\t,# one\n2)", "max(1, 2)"},
		{"a!=b", "a != b"},
		{"a- -b", "a - -b"},
		{"a - b", "a - b"},
		// the document's
		{"(1+2)*3-(4*5)", "(1 + 2) * 3 - 4 * 5"},
		{"not a==b", "not a == b"},
	} {
		got := printed(t, "a:int="+c.text+";")
		if want := "a : int = " + c.want + ";\n"; got != want {
			t.Errorf("%q is printed as %q, want %q", c.text, got, want)
		}
	}
}
