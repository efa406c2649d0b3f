package mill_test

import (
	"fmt"
	"math/big"
	"math/rand"
	"slices"
	"testing"

	"ratemill/mill"
)

// A second meaning, of the second compiler's lines: it goes from the value that
// is asked for to those that it needs, by whole numbers without end, and keeps
// each by its flow and instant.
type sense struct {
	*second
	ins   map[string][]int64
	known map[moment]answer
}

type moment struct {
	flow    string
	instant int64
}

type answer struct {
	value *big.Int
	there bool
}

// is: whether Meaning has answered so.
func (a answer) is(v int64, err error) bool {
	if !a.there {
		return v == 0 && err == mill.ErrInputs
	}
	return err == nil && a.value.Cmp(big.NewInt(v)) == 0
}

func (s *sense) of(flow string, instant int64) answer {
	m := moment{flow, instant}
	if a, met := s.known[m]; met {
		return a
	}
	l := s.decl[s.second.flow(flow)]
	a := answer{}
	switch list := s.ins[flow]; {
	case instant > 2000:
	case l.body != nil:
		a = s.worth(l.body, instant)
	case instant < int64(len(list)):
		a = answer{big.NewInt(list[instant]), true}
	}
	s.known[m] = a
	return a
}

func constantOf(text string) answer {
	switch text {
	case "true":
		return answer{big.NewInt(1), true}
	case "false":
		return answer{big.NewInt(0), true}
	}
	v, _ := new(big.Int).SetString(text, 10)
	return answer{v, true}
}

func (s *sense) worth(e *part, n int64) answer {
	switch e.what {
	case "int", "bool":
		return constantOf(e.text)
	case "name":
		return s.of(e.text, n)
	case "fby":
		if n == 0 {
			return constantOf(e.first)
		}
		return s.worth(e.kids[0], n-1)
	case "under":
		return s.worth(e.kids[0], int64(e.k)*n)
	case "hold":
		if n < int64(e.k) {
			return constantOf(e.first)
		}
		return s.worth(e.kids[0], n/int64(e.k)-1)
	}
	var values []*big.Int
	all := true
	for _, kid := range e.kids {
		a := s.worth(kid, n)
		values = append(values, a.value)
		all = all && a.there
	}
	if !all {
		return answer{}
	}
	return answer{wrapped(reckoned(e.what, values)), true}
}

func reckoned(what string, v []*big.Int) *big.Int {
	out := new(big.Int)
	switch what {
	case "+":
		return out.Add(v[0], v[1])
	case "-":
		return out.Sub(v[0], v[1])
	case "*":
		return out.Mul(v[0], v[1])
	case "neg":
		return out.Neg(v[0])
	case "/", "%":
		if v[1].Sign() == 0 {
			return out
		}
		whole, rest := new(big.Int).QuoRem(v[0], v[1], out)
		return map[string]*big.Int{"/": whole, "%": rest}[what]
	case "not":
		return asBig(v[0].Sign() == 0)
	case "if":
		if v[0].Sign() == 0 {
			return v[2]
		}
		return v[1]
	}
	return compared(what, v[0], v[1], v[0].Cmp(v[1]))
}

// compared: all that hangs only on which of the two is greater.
func compared(what string, a, b *big.Int, order int) *big.Int {
	switch what {
	case "<":
		return asBig(order < 0)
	case "<=":
		return asBig(order <= 0)
	case ">":
		return asBig(order > 0)
	case ">=":
		return asBig(order >= 0)
	case "==":
		return asBig(order == 0)
	case "!=", "xor":
		return asBig(order != 0)
	}
	if (order < 0) == (what == "min" || what == "and") {
		return a
	}
	return b
}

func asBig(holds bool) *big.Int {
	if holds {
		return big.NewInt(1)
	}
	return big.NewInt(0)
}

// wrapped: the one number from -2^63 to 2^63 - 1 that is as far as whole turns
// of 2^64 away.
func wrapped(v *big.Int) *big.Int {
	turn := new(big.Int).Lsh(big.NewInt(1), 64)
	half := new(big.Int).Lsh(big.NewInt(1), 63)
	v = new(big.Int).Add(v, half)
	return v.Mod(v, turn).Sub(v, half)
}

// lists: one for each input, as long or short as it comes.
func lists(r *rand.Rand, s *second) ([][]int64, map[string][]int64) {
	var ins [][]int64
	byName := map[string][]int64{}
	length := []int{0, 3, 10, 30, 450, 2100}[r.Intn(6)]
	for _, l := range s.decl {
		if l.body != nil {
			continue
		}
		list := make([]int64, max(0, length+r.Intn(5)-2))
		for i := range list {
			list[i] = []int64{r.Int63n(7) - 3, r.Int63n(7) - 3, r.Int63() - r.Int63(), most, least}[r.Intn(5)]
			if l.typ == "bool" {
				list[i] = r.Int63n(2)
			}
		}
		ins = append(ins, list)
		byName[l.names[0].text] = slices.Clone(list)
	}
	return ins, byName
}

// inputs: the second meaning's own lists, in their order.
func (s *sense) inputs() [][]int64 {
	var ins [][]int64
	for _, l := range s.decl {
		if l.body == nil {
			ins = append(ins, s.ins[l.names[0].text])
		}
	}
	return ins
}

func TestP5AsTheSecondMeaningHasIt(t *testing.T) {
	r := rand.New(rand.NewSource(5))
	seen := map[string]int{}
	for range 4000 {
		text, s := madeUp(r, 0)
		p, err := mill.Compile(text)
		if _, wrong, _ := s.compile(); wrong != nil || err != nil {
			continue // P4's test looks after these
		}
		ins, byName := lists(r, s)
		own := &sense{second: s, ins: byName, known: map[moment]answer{}}
		for range 30 {
			flow := r.Intn(len(s.decl))
			n := []int{r.Intn(4), r.Intn(15), r.Intn(40), r.Intn(401)}[r.Intn(4)]
			a := own.of(s.decl[flow].names[0].text, int64(n))
			v, err := p.Meaning(flow, ins, n)
			if !a.is(v, err) {
				t.Fatalf("%q by %v: %s at %d: %d, %v, want %v", text, ins, s.decl[flow].names[0].text, n, v, err, a)
			}
			if s.decl[flow].body != nil {
				seen[fmt.Sprint(a.there, s.decl[flow].typ, n > 40)]++
			}
		}
		if again := own.inputs(); !slices.EqualFunc(ins, again, slices.Equal) {
			t.Fatalf("%q: the lists have changed", text)
		}
	}
	for _, there := range []bool{true, false} {
		for _, typ := range []string{"int", "bool"} {
			for _, late := range []bool{true, false} {
				if seen[fmt.Sprint(there, typ, late)] < 500 {
					t.Errorf("too few of a kind: %v", seen)
				}
			}
		}
	}
}
