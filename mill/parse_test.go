package mill_test

import (
	"errors"
	"strings"
	"testing"

	"ratemill/mill"
)

// wrong is a text with the error and the place that P2 asks for; no error: it is right.
type wrong struct {
	text string
	err  error
	at   int
}

// check holds Parse against what is asked: a Diag with its place and no tree, or a tree alone.
func check(t *testing.T, c wrong) {
	t.Helper()
	tree, err := mill.Parse(c.text)
	if c.err == nil {
		if tree == nil || err != nil {
			t.Errorf("Parse(%.60q): %v, want a tree", c.text, err)
		}
		return
	}
	d, ok := err.(*mill.Diag)
	if !ok || d.Err != c.err || d.At != c.at || tree != nil {
		t.Errorf("Parse(%.60q): tree %t, %v; want %v at %d", c.text, tree != nil, err, c.err, c.at)
	}
}

func checkAll(t *testing.T, cases []wrong) {
	t.Helper()
	for _, c := range cases {
		check(t, c)
	}
}

func right(texts ...string) []wrong {
	var out []wrong
	for _, s := range texts {
		out = append(out, wrong{text: s})
	}
	return out
}

func TestP2RightTexts(t *testing.T) {
	checkAll(t, right(
		"", " ", "\t\n", "#", "# all of it is a remark", "#\n",
		"input x:int every 2;", "input x:bool every 2;", "output a;", "output a,b,a;",
		"a:int=1;a:int=1;", "a:bool=true;", "a:bool=false;", "a:int=b;",
		"a:int=if a then b else c;", "a:int=(if a then b else c)*2;",
		"a:bool=a or b xor c and not d;", "a:bool=not not not a<b;",
		"a:bool=1<2;a:bool=1<=2;a:bool=1>2;a:bool=1>=2;a:bool=1==2;a:bool=1!=2;",
		"a:bool=(1<2)<3;", "a:bool=1<(2<3);", "a:bool=1<2 and 2<3;",
		"a:int=1+2-3*4/5%6;", "a:int=---1;", "a:int=1---1;", "a:int=1- - -1;",
		"a:int=fby(0,1);a:int=fby(-1,x);a:bool=fby(true,x);a:bool=fby(false,if a then b else c);",
		"a:int=under(x,2);", "a:int=under(if a then b else c,2);",
		"a:int=hold(0,x,2);a:int=hold(-0,x,2);a:bool=hold(true,not x,2);",
		"a:int=min(1,2);a:int=max(min(a,b),if a then b else c);",
		"inputs:int=1;ifx:int=1;in:int=2;or_:int=3;x0r:int=4;",
		"a:int=if 1then 2else 3;", "a:int=1or 2;", "a:int=(1)or(2);",
	))
}

func TestP2BlanksAndRemarks(t *testing.T) {
	checkAll(t, right(
		"\ninput\tx\n:\tint every\n2\t;\n",
		"input#x\nx#:\n:#\nint#\nevery#\n2#;\n;#",
		"a:int=1# \x00\xff\r&A!\n;",
		" a : bool = 1 <= 2 ; ",
		"# one # two\na:int=1;# three",
	))
	checkAll(t, []wrong{
		{"a:bool=1< =2;", mill.ErrSyntax, 10},
		{"a:bool=1= =2;", mill.ErrSyntax, 8},
		{"a:int==1;", mill.ErrSyntax, 5},
		{"a:bool=1<==2;", mill.ErrSyntax, 10},
		{"inputx:int every 2;", mill.ErrSyntax, 11},
		{"a:int=ifx then 1 else 2;", mill.ErrSyntax, 10},
		{"a:int=no t a;", mill.ErrSyntax, 9},
		{"a:int=1 # ;", mill.ErrSyntax, 11},
		{"a:int=1  \n ", mill.ErrSyntax, 11},
		{"a\r:int=1;", mill.ErrToken, 1},
		{"a\v:int=1;", mill.ErrToken, 1},
		{"a\f:int=1;", mill.ErrToken, 1},
	})
}

func TestP2Tokens(t *testing.T) {
	checkAll(t, right(
		"abcdefghijkl:int=z_0123456789;", "a___________:int=1;", "a:int=0;",
		"a:int=9223372036854775807;", "a:int=fby(-9223372036854775807,x);",
	))
	checkAll(t, []wrong{
		{"abcdefghijklm:int=1;", mill.ErrToken, 0},
		{"a:int=abcdefghijkl_;", mill.ErrToken, 6},
		{"a:int=" + strings.Repeat("b", 3000) + ";", mill.ErrToken, 6},
		{"a:int=9223372036854775808;", mill.ErrToken, 6},
		{"a:int=-9223372036854775808;", mill.ErrToken, 7},
		{"a:int=fby(-9223372036854775808,x);", mill.ErrToken, 11},
		{"a:int=" + strings.Repeat("9", 3000) + ";", mill.ErrToken, 6},
		{"a:int=00;", mill.ErrToken, 6},
		{"a:int=1+007;", mill.ErrToken, 8},
		{"input x:int every 02;", mill.ErrToken, 18},
		{"_a:int=1;", mill.ErrToken, 0},
		{"aB:int=1;", mill.ErrToken, 1},
		{"Input a:int every 1;", mill.ErrToken, 0},
		{"a:int=1!2;", mill.ErrToken, 7},
		{"a:int=1!", mill.ErrToken, 7},
		{"a:int=!=1;", mill.ErrSyntax, 6},
		{"a:int=1! =2;", mill.ErrToken, 7},
		{"a:int=1.5;", mill.ErrToken, 7},
		{"a:int='1';", mill.ErrToken, 6},
		{"a:int=[1];", mill.ErrToken, 6},
		{"a:int=1&&2;", mill.ErrToken, 7},
		{"a:int=1|2;", mill.ErrToken, 7},
		{"a:int=\x80;", mill.ErrToken, 6},
		{"a:int=1 1x;", mill.ErrSyntax, 8},
		{"a:int=1a;", mill.ErrSyntax, 7},
	})
}

// Every byte: those with which a token begins, blanks, and the others.
func TestP2EachByteFirst(t *testing.T) {
	const begins = "abcdefghijklmnopqrstuvwxyz0123456789:;=(),+-*/%<>"
	for b := range 256 {
		text := string([]byte{byte(b)})
		switch {
		case strings.Contains(" \t\n#", text):
			check(t, wrong{text: text})
		case 'a' <= b && b <= 'z':
			check(t, wrong{text, mill.ErrSyntax, 1})
		case strings.Contains(begins, text):
			check(t, wrong{text, mill.ErrSyntax, 0})
		default:
			check(t, wrong{text, mill.ErrToken, 0})
		}
	}
}

func TestP2NumberBounds(t *testing.T) {
	checkAll(t, right(
		"input x:int every 1;", "input x:int every 1000000;",
		"a:int=under(x,2);", "a:int=under(x,1000);",
		"a:int=hold(0,x,2);", "a:int=hold(0,x,1000);",
	))
	checkAll(t, []wrong{
		{"input x:int every 0;", mill.ErrSyntax, 18},
		{"input x:int every 1000001;", mill.ErrSyntax, 18},
		{"input x:int every 9223372036854775807;", mill.ErrSyntax, 18},
		{"input x:int every 9223372036854775808;", mill.ErrToken, 18},
		{"input x:int every -1;", mill.ErrSyntax, 18},
		{"input x:int every n;", mill.ErrSyntax, 18},
		{"input x:int every 0&", mill.ErrSyntax, 18},
		{"a:int=under(x,0);", mill.ErrSyntax, 14},
		{"a:int=under(x,1);", mill.ErrSyntax, 14},
		{"a:int=under(x,1001);", mill.ErrSyntax, 14},
		{"a:int=under(x,-2);", mill.ErrSyntax, 14},
		{"a:int=under(x,(2));", mill.ErrSyntax, 14},
		{"a:int=under(x,2+1);", mill.ErrSyntax, 15},
		{"a:int=hold(0,x,0);", mill.ErrSyntax, 15},
		{"a:int=hold(0,x,1);", mill.ErrSyntax, 15},
		{"a:int=hold(0,x,1001);", mill.ErrSyntax, 15},
		{"a:int=hold(0,x,y);", mill.ErrSyntax, 15},
	})
}

func TestP2WrongItems(t *testing.T) {
	checkAll(t, []wrong{
		{";", mill.ErrSyntax, 0},
		{"1", mill.ErrSyntax, 0},
		{"every:int=1;", mill.ErrSyntax, 0},
		{"min:int=1;", mill.ErrSyntax, 0},
		{"a=1;", mill.ErrSyntax, 1},
		{"a:x=1;", mill.ErrSyntax, 2},
		{"a:int:1;", mill.ErrSyntax, 5},
		{"a:int=1,b:int=1;", mill.ErrSyntax, 7},
		{"a:int=1;b", mill.ErrSyntax, 9},
		{"input :int every 1;", mill.ErrSyntax, 6},
		{"input x,y:int every 1;", mill.ErrSyntax, 7},
		{"input x:int=1;", mill.ErrSyntax, 11},
		{"input x:int every 1", mill.ErrSyntax, 19},
		{"output ", mill.ErrSyntax, 7},
		{"output ;", mill.ErrSyntax, 7},
		{"output int;", mill.ErrSyntax, 7},
		{"output 1;", mill.ErrSyntax, 7},
		{"output a,,b;", mill.ErrSyntax, 9},
		{"output a:int;", mill.ErrSyntax, 8},
		{"output a", mill.ErrSyntax, 8},
		{"output a,", mill.ErrSyntax, 9},
	})
}

func TestP2WrongExpressions(t *testing.T) {
	checkAll(t, []wrong{
		{"a:int=1<2<3;", mill.ErrSyntax, 9},
		{"a:int=;A", mill.ErrSyntax, 6},
		{"a:int=1+not 2;", mill.ErrSyntax, 8},
		{"a:bool=a==not b;", mill.ErrSyntax, 10},
		{"a:bool=a and if b then c else d;", mill.ErrSyntax, 13},
		{"a:bool=not if b then c else d;", mill.ErrSyntax, 11},
		{"a:int=-if b then c else d;", mill.ErrSyntax, 7},
		{"a:int=if a then b;", mill.ErrSyntax, 17},
		{"a:int=if a else b;", mill.ErrSyntax, 11},
		{"a:int=if then b else c;", mill.ErrSyntax, 9},
		{"a:int=if a then b else c then d;", mill.ErrSyntax, 25},
		{"a:int=1+;", mill.ErrSyntax, 8},
		{"a:int=1 and;", mill.ErrSyntax, 11},
		{"a:int=*1;", mill.ErrSyntax, 6},
		{"a:int=1*+2;", mill.ErrSyntax, 8},
		{"a:int=();", mill.ErrSyntax, 7},
		{"a:int=(1,2);", mill.ErrSyntax, 8},
		{"a:int=((1);", mill.ErrSyntax, 10},
		{"a:int=b(1);", mill.ErrSyntax, 7},
		{"a:int=b c;", mill.ErrSyntax, 8},
		{"a:int=int;", mill.ErrSyntax, 6},
		{"a:int=fby;", mill.ErrSyntax, 9},
		{"a:int=fby(;", mill.ErrSyntax, 10},
		{"a:int=fby((1),x);", mill.ErrSyntax, 10},
		{"a:int=fby(1+1,x);", mill.ErrSyntax, 11},
		{"a:int=fby(-true,x);", mill.ErrSyntax, 11},
		{"a:int=fby(x,x);", mill.ErrSyntax, 10},
		{"a:int=fby(1,x,2);", mill.ErrSyntax, 13},
		{"a:int=under(x);", mill.ErrSyntax, 13},
		{"a:int=under(x,2,2);", mill.ErrSyntax, 15},
		{"a:int=hold(x,x,2);", mill.ErrSyntax, 11},
		{"a:int=hold(-false,x,2);", mill.ErrSyntax, 12},
		{"a:int=hold(1,x);", mill.ErrSyntax, 14},
		{"a:int=min 1;", mill.ErrSyntax, 10},
		{"a:int=min();", mill.ErrSyntax, 10},
		{"a:int=max(1,2,3);", mill.ErrSyntax, 13},
	})
}

// Each beginning of a right text ends where none can, or behind an item.
func TestP2Beginnings(t *testing.T) {
	text := "input x : int every 2 ; a : int = if x < 1 then hold ( - 1 , x , 2 ) else fby ( 0 , min ( a , 2 ) ) ; output a , x ; "
	words := strings.SplitAfter(text, " ")
	begun := ""
	for _, w := range words {
		if begun == "" || strings.HasSuffix(begun, "; ") {
			check(t, wrong{text: begun})
		} else {
			check(t, wrong{begun, mill.ErrSyntax, len(begun)})
		}
		begun += w
	}
}

func TestP2LongTexts(t *testing.T) {
	fill := func(text string, n int) string { return text + strings.Repeat(" ", n-len(text)) }
	checkAll(t, right(fill("", 4000), fill("a:int=1;", 4000), fill("#", 4000)))
	checkAll(t, []wrong{
		{fill("a", 4000), mill.ErrSyntax, 4000},
		{fill("", 3999) + "&", mill.ErrToken, 3999},
	})
	for _, text := range []string{fill("", 4001), fill("&", 4001), fill("a:int=1;", 4001), fill("x", 100000)} {
		tree, err := mill.Parse(text)
		if tree != nil || err != mill.ErrLong {
			t.Errorf("of %d bytes: tree %t, %v; want ErrLong as it is", len(text), tree != nil, err)
		}
	}
}

func TestP2ManyTokens(t *testing.T) {
	// Behind the four tokens of a head, so many minus signs.
	minus := func(n int) string { return "a:int=" + strings.Repeat("-", n) }
	checkAll(t, right(minus(594)+"1;", minus(594)+"1; \n# a remark is no token"))
	checkAll(t, []wrong{
		{minus(595) + "1;", mill.ErrLong, 602},
		{minus(594) + "1; \n a", mill.ErrLong, 605},
		{minus(594) + "1;&", mill.ErrToken, 602},
		{minus(594) + "1;abcdefghijklm", mill.ErrToken, 602},
		{minus(594) + "1;01", mill.ErrToken, 602},
		{minus(594) + "1;)", mill.ErrLong, 602},
		{minus(594) + "1)", mill.ErrSyntax, 601},
		{minus(594) + "1);", mill.ErrSyntax, 601},
		{minus(595) + "1", mill.ErrSyntax, 602},
		{minus(596), mill.ErrSyntax, 602},
		{minus(597), mill.ErrLong, 602},
		{minus(596) + "&", mill.ErrToken, 602},
		{"a:int=" + strings.Repeat("(", 2000), mill.ErrLong, 602},
		{"a:int=" + strings.Repeat("1 ", 700), mill.ErrSyntax, 8},
	})
}

func TestP2ManyItems(t *testing.T) {
	outputs := func(n int) string { return strings.Repeat("output a;", n) }
	tens := strings.Repeat("a:int=1+2+3;", 60) // 600 tokens
	checkAll(t, right(outputs(60), outputs(60)+" # more \n", tens))
	checkAll(t, []wrong{
		{outputs(61), mill.ErrMany, 540},
		{outputs(60) + " a", mill.ErrMany, 541},
		{outputs(60) + ")", mill.ErrMany, 540},
		{outputs(60) + ") &", mill.ErrMany, 540},
		{outputs(60) + "&", mill.ErrToken, 540},
		{outputs(60) + "01", mill.ErrToken, 540},
		{outputs(59) + ")", mill.ErrSyntax, 531},
		{outputs(59) + "output a " + outputs(2), mill.ErrSyntax, 540},
		{tens + "a", mill.ErrLong, 720},
		{tens + ")", mill.ErrLong, 720},
		{tens + "&", mill.ErrToken, 720},
	})
}

func TestP2FirstFromTheLeft(t *testing.T) {
	checkAll(t, []wrong{
		{"a:int=) &", mill.ErrSyntax, 6},
		{"a:int=& )", mill.ErrToken, 6},
		{"a:int=1 abcdefghijklm", mill.ErrToken, 8},
		{"a:int=1 01", mill.ErrToken, 8},
		{"a:int=1<2<&", mill.ErrSyntax, 9},
		{"a:int=under(x,1&", mill.ErrSyntax, 14},
		{"a:int=hold(x&", mill.ErrSyntax, 11},
		{"input if&", mill.ErrSyntax, 6},
		{"output a b&", mill.ErrSyntax, 9},
		{"a:int=if 1&", mill.ErrToken, 10},
	})
}

func TestDiagTellsItsError(t *testing.T) {
	_, err := mill.Parse("a:int=;")
	var d *mill.Diag
	if !errors.As(err, &d) || !errors.Is(err, mill.ErrSyntax) || errors.Is(err, mill.ErrToken) || d.Unwrap() != mill.ErrSyntax {
		t.Errorf("%v is no Diag of ErrSyntax", err)
	}
	if err.Error() != "at 6: "+mill.ErrSyntax.Error() {
		t.Errorf("it says %q", err.Error())
	}
}
