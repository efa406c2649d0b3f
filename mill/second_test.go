package mill_test

import (
	"fmt"
	"math/rand"
	"slices"
	"strings"
	"testing"

	"ratemill/mill"
)

// A second compiler, that shares nothing with the program's: it is given no
// text but made-up lines, that know their places since they were written.

// part: an expression. what: the operator's token, or name, int, bool.
type part struct {
	what  string
	at    int
	text  string
	first string // of fby and hold
	k     int
	kids  []*part
}

type spot struct {
	text string
	at   int
}

// line: an item. what: input, output, equation.
type line struct {
	what  string
	names []spot // of an output; else one
	typ   string
	every int
	body  *part
}

// writer lays tokens down and tells where.
type writer struct {
	rand *rand.Rand
	out  strings.Builder
}

func (w *writer) put(tok string) int {
	last := ""
	if s := w.out.String(); s != "" {
		last = s[len(s)-1:]
	}
	if glues(last) && glues(tok[:1]) || last == "<" || last == ">" || last == "=" || w.rand.Intn(8) == 0 {
		w.out.WriteString(pickOne(w.rand, " ", "\n", "#+\n", "\t "))
	}
	at := w.out.Len()
	w.out.WriteString(tok)
	return at
}

func glues(s string) bool {
	return s >= "a" && s <= "z~" || s >= "0" && s <= "9~" || s == "_"
}

func (w *writer) all(toks ...string) {
	for _, tok := range toks {
		w.put(tok)
	}
}

func (w *writer) inBrackets(e *part) {
	w.put("(")
	w.expr(e)
	w.put(")")
}

func (w *writer) constant(s string) {
	if rest, isNegative := strings.CutPrefix(s, "-"); isNegative {
		w.put("-")
		s = rest
	}
	w.put(s)
}

func (w *writer) expr(e *part) {
	switch e.what {
	case "name", "int", "bool":
		e.at = w.put(e.text)
	case "not", "neg":
		e.at = w.put(map[string]string{"not": "not", "neg": "-"}[e.what])
		w.inBrackets(e.kids[0])
	case "if":
		e.at = w.put("if")
		w.expr(e.kids[0])
		w.put("then")
		w.expr(e.kids[1])
		w.put("else")
		w.expr(e.kids[2])
	case "fby", "under", "hold", "min", "max":
		e.at = w.put(e.what)
		w.put("(")
		if e.first != "" {
			w.constant(e.first)
			w.put(",")
		}
		for i, kid := range e.kids {
			if i > 0 {
				w.put(",")
			}
			w.expr(kid)
		}
		if e.k > 0 {
			w.all(",", fmt.Sprint(e.k))
		}
		w.put(")")
	default:
		w.inBrackets(e.kids[0])
		e.at = w.put(e.what)
		w.inBrackets(e.kids[1])
	}
}

func (w *writer) line(l *line) {
	if l.what != "equation" {
		w.put(l.what)
	}
	for i := range l.names {
		if i > 0 {
			w.put(",")
		}
		l.names[i].at = w.put(l.names[i].text)
	}
	switch l.what {
	case "input":
		w.all(":", l.typ, "every", fmt.Sprint(l.every))
	case "equation":
		w.all(":", l.typ, "=")
		w.expr(l.body)
	}
	w.put(";")
}

// maker makes programs up that are right but for a slip now and then. A flow's
// rank is higher than those of the flows that it may need.
type maker struct {
	rand  *rand.Rand
	flows []plan
	slips int    // one in so many parts is wrong
	kind  string // and only by this, if it is told: twice, name, type, period, need
}

type plan struct {
	name, typ    string
	period, rank int
	input        bool
}

func (m *maker) slip(kind string) bool {
	return m.slips > 0 && (m.kind == "" || m.kind == kind) && m.rand.Intn(m.slips) == 0
}

func (m *maker) plans() {
	periods := [][]int{{1, 2, 4}, {2, 4, 8}, {2, 3, 6, 12}, {1000, 1000000}, {6}}[m.rand.Intn(5)]
	for i := range 1 + m.rand.Intn(9) {
		m.flows = append(m.flows, plan{
			name:   fmt.Sprintf("%c%d", 'a'+m.rand.Intn(3), i),
			typ:    pickOne(m.rand, "int", "int", "bool"),
			period: periods[m.rand.Intn(len(periods))],
			rank:   m.rand.Intn(100),
			input:  m.rand.Intn(5) == 0,
		})
	}
	for i, p := range periods { // else most equations would have no period
		m.flows = append(m.flows, plan{fmt.Sprintf("i%d", i), "int", p, 0, true})
		m.flows = append(m.flows, plan{fmt.Sprintf("b%d_", i), "bool", p, 0, true})
	}
}

func (m *maker) lines() []*line {
	m.plans()
	var out []*line
	for _, f := range m.flows {
		l := &line{what: "equation", names: []spot{{text: f.name}}, typ: f.typ}
		if f.input {
			l.what, l.every = "input", f.period
		} else {
			l.body = m.anchored(f, m.expr(f.typ, f.period, f.rank, 1+m.rand.Intn(4)))
		}
		out = append(out, l)
		if m.slip("twice") {
			out = append(out, l)
		}
	}
	left := slices.Clone(m.flows)
	for len(left) > 0 && m.rand.Intn(2) == 0 {
		l := &line{what: "output"}
		for len(left) > 0 && (len(l.names) == 0 || m.rand.Intn(2) == 0) {
			l.names = append(l.names, spot{text: left[0].name})
			if !m.slip("twice") {
				left = left[1:]
			}
			if m.slip("name") {
				l.names[0].text = "nobody"
			}
		}
		out = append(out, l)
	}
	m.rand.Shuffle(len(out), func(i, k int) { out[i], out[k] = out[k], out[i] })
	for i, l := range out { // what stands twice has two places
		twin := *l
		twin.names = slices.Clone(l.names)
		twin.body = copied(l.body)
		out[i] = &twin
	}
	return out
}

// anchored: most equations have an input in them, else many would be free.
func (m *maker) anchored(f plan, e *part) *part {
	for _, o := range m.flows {
		if o.input && o.typ == f.typ && o.period == f.period && m.rand.Intn(4) > 0 {
			kids := []*part{e, {what: "name", text: o.name}}
			m.rand.Shuffle(2, func(i, k int) { kids[i], kids[k] = kids[k], kids[i] })
			return &part{what: map[string]string{"int": "-", "bool": "xor"}[f.typ], kids: kids}
		}
	}
	return e
}

func copied(e *part) *part {
	if e == nil {
		return nil
	}
	twin := *e
	twin.kids = nil
	for _, kid := range e.kids {
		twin.kids = append(twin.kids, copied(kid))
	}
	return &twin
}

func (m *maker) leaf(typ string, period, rank int) *part {
	var fit []string
	for _, f := range m.flows {
		if (f.typ == typ || m.slip("type")) && (f.period == period || m.slip("period")) && (f.rank < rank || f.input || m.slip("need")) {
			fit = append(fit, f.name)
		}
	}
	if m.slip("name") {
		fit = append(fit, "nobody")
	}
	if len(fit) > 0 && m.rand.Intn(8) > 0 {
		return &part{what: "name", text: pickOne(m.rand, fit...)}
	}
	return m.literal(typ)
}

func (m *maker) literal(typ string) *part {
	if typ == "bool" {
		return &part{what: "bool", text: pickOne(m.rand, "true", "false")}
	}
	return &part{what: "int", text: pickOne(m.rand, "0", "1", "2", "3", "10", "9223372036854775807")}
}

func (m *maker) constant(typ string) string {
	if typ == "bool" != m.slip("type") {
		return pickOne(m.rand, "true", "false")
	}
	return pickOne(m.rand, "0", "-1", "5", "-9223372036854775807")
}

func (m *maker) expr(typ string, period, rank, deep int) *part {
	if m.slip("type") {
		typ = pickOne(m.rand, "int", "bool")
	}
	if deep == 0 {
		return m.leaf(typ, period, rank)
	}
	sub := func(typ string, period, rank int) *part {
		return m.expr(typ, period, rank, deep-1-m.rand.Intn(deep))
	}
	k := []int{2, 2, 3, 4, 1000}[m.rand.Intn(5)]
	switch m.rand.Intn(9) {
	case 0:
		return &part{what: "if", kids: []*part{sub("bool", period, rank), sub(typ, period, rank), sub(typ, period, rank)}}
	case 1:
		return &part{what: "fby", first: m.constant(typ), kids: []*part{sub(typ, period, 1000)}}
	case 2:
		if period%k == 0 || m.slip("period") {
			return &part{what: "under", k: k, kids: []*part{sub(typ, period/k, rank)}}
		}
	case 3:
		if period*k <= 1000000 || m.slip("period") {
			return &part{what: "hold", first: m.constant(typ), k: k, kids: []*part{sub(typ, period*k, 1000)}}
		}
	case 4:
		return m.leaf(typ, period, rank)
	}
	return m.operator(typ, func(typ string) *part { return sub(typ, period, rank) })
}

func (m *maker) operator(typ string, sub func(typ string) *part) *part {
	if typ == "int" {
		what := pickOne(m.rand, "+", "-", "*", "/", "%", "min", "max", "neg")
		if what == "neg" {
			return &part{what: what, kids: []*part{sub("int")}}
		}
		return &part{what: what, kids: []*part{sub("int"), sub("int")}}
	}
	what := pickOne(m.rand, "and", "or", "xor", "not", "==", "!=", "<", "<=", ">", ">=")
	switch what {
	case "not":
		return &part{what: what, kids: []*part{sub("bool")}}
	case "and", "or", "xor":
		return &part{what: what, kids: []*part{sub("bool"), sub("bool")}}
	case "==", "!=":
		typ = pickOne(m.rand, "int", "bool")
		return &part{what: what, kids: []*part{sub(typ), sub(typ)}}
	}
	return &part{what: what, kids: []*part{sub("int"), sub("int")}}
}

// second: what the second compiler knows.
type second struct {
	lines   []*line
	decl    []*line // of the flows, as they are numbered
	outputs map[string]bool
	known   map[string]int // periods
}

// flow of a name; -1 of none.
func (s *second) flow(name string) int {
	return slices.IndexFunc(s.decl, func(l *line) bool { return l.names[0].text == name })
}

// compile answers what is told of the program, or an error and its place.
func (s *second) compile() (string, error, int) {
	for _, step := range []func() (error, int){s.twice, s.nobody, s.types, s.free, s.periods, s.common, s.cycle} {
		if err, at := step(); err != nil {
			return "", err, at
		}
	}
	return s.told(), nil, 0
}

func (s *second) twice() (error, int) {
	s.outputs = map[string]bool{}
	for _, l := range s.lines {
		for _, w := range l.names {
			if l.what == "output" && s.outputs[w.text] || l.what != "output" && s.flow(w.text) >= 0 {
				return mill.ErrTwice, w.at
			}
			if l.what == "output" {
				s.outputs[w.text] = true
			} else {
				s.decl = append(s.decl, l)
			}
		}
	}
	return nil, 0
}

// each goes through a part, from within outward.
func (e *part) each(see func(*part)) {
	for _, kid := range e.kids {
		kid.each(see)
	}
	see(e)
}

func (s *second) nobody() (err error, at int) {
	meet := func(text string, place int) {
		if err == nil && s.flow(text) < 0 {
			err, at = mill.ErrName, place
		}
	}
	for _, l := range s.lines {
		if l.what == "output" {
			for _, w := range l.names {
				meet(w.text, w.at)
			}
		}
		if l.body != nil {
			l.body.each(func(e *part) {
				if e.what == "name" {
					meet(e.text, e.at)
				}
			})
		}
	}
	return err, at
}

// signature: the types of the operands, as letters, behind > its own: all that
// may be.
var signatures = map[string]string{
	"+": "ii>i", "-": "ii>i", "*": "ii>i", "/": "ii>i", "%": "ii>i", "min": "ii>i", "max": "ii>i", "neg": "i>i",
	"<": "ii>b", "<=": "ii>b", ">": "ii>b", ">=": "ii>b", "==": "ii>b bb>b", "!=": "ii>b bb>b",
	"and": "bb>b", "or": "bb>b", "xor": "bb>b", "not": "b>b", "if": "bii>i bbb>b",
	"fby": "ii>i bb>b", "hold": "ii>i bb>b", "under": "i>i b>b",
}

func letterOf(constant string) string {
	if constant == "true" || constant == "false" {
		return "b"
	}
	return "i"
}

func (s *second) types() (err error, at int) {
	for _, l := range s.decl {
		if l.body == nil {
			continue
		}
		found := map[*part]string{}
		l.body.each(func(e *part) {
			switch e.what {
			case "name":
				found[e] = s.decl[s.flow(e.text)].typ[:1]
				return
			case "int", "bool":
				found[e] = e.what[:1]
				return
			}
			have := ""
			if e.first != "" {
				have = letterOf(e.first)
			}
			for _, kid := range e.kids {
				have += found[kid]
			}
			for _, sig := range strings.Fields(signatures[e.what]) {
				if own, fits := strings.CutPrefix(sig, have+">"); fits {
					found[e] = own
				}
			}
			if err == nil && found[e] == "" {
				err, at = mill.ErrType, e.at
			}
		})
		if err == nil && found[l.body] != l.typ[:1] {
			err, at = mill.ErrType, l.names[0].at
		}
		if err != nil {
			return err, at
		}
	}
	return nil, 0
}

// periodsIn: of each part of an expression, without those that are open.
func (s *second) periodsIn(body *part) map[*part]int {
	found := map[*part]int{}
	body.each(func(e *part) {
		if p, is := s.known[e.text]; is && e.what == "name" {
			found[e] = p
		}
		for _, kid := range slices.Backward(e.kids) {
			if p, is := found[kid]; is {
				found[e] = p
			}
		}
		switch p, is := found[e]; {
		case is && e.what == "under":
			found[e] = p * e.k
			if p*e.k > 1000000 {
				delete(found, e)
			}
		case is && e.what == "hold":
			found[e] = p / e.k
			if p%e.k != 0 {
				delete(found, e)
			}
		}
	})
	return found
}

func (s *second) free() (error, int) {
	s.known = map[string]int{}
	for _, l := range s.decl {
		if l.body == nil {
			s.known[l.names[0].text] = l.every
		}
	}
	for found := -1; found < len(s.known); {
		found = len(s.known)
		for _, l := range s.decl {
			if l.body == nil || s.known[l.names[0].text] > 0 {
				continue
			}
			if p, is := s.periodsIn(l.body)[l.body]; is {
				s.known[l.names[0].text] = p
			}
		}
	}
	for _, l := range s.decl {
		if s.known[l.names[0].text] == 0 {
			return mill.ErrFree, l.names[0].at
		}
	}
	return nil, 0
}

func (s *second) periods() (err error, at int) {
	for _, l := range s.decl {
		if l.body == nil {
			continue
		}
		found := s.periodsIn(l.body)
		l.body.each(func(e *part) {
			all := map[int]int{}
			for _, kid := range e.kids {
				if p, is := found[kid]; is {
					all[p]++
				}
			}
			_, is := found[e]
			if err == nil && (len(all) > 1 || len(all) == 1 && !is) {
				err, at = mill.ErrPeriod, e.at
			}
		})
		if err != nil {
			return err, at
		}
		if found[l.body] != s.known[l.names[0].text] {
			return mill.ErrPeriod, l.names[0].at
		}
	}
	return nil, 0
}

// common counts up to the first tick at which all flows have an instant.
func (s *second) common() (error, int) {
	most := 1
	for _, p := range s.known {
		most = max(most, p)
	}
	for tick := most; tick <= 1000000; tick += most {
		all := true
		for _, p := range s.known {
			all = all && tick%p == 0
		}
		if all {
			return nil, 0
		}
	}
	return mill.ErrPeriod, 0
}

// needs: does the one stand in the other's equation, without fby and hold?
func (s *second) needs(by, flow int) bool {
	var in func(e *part) bool
	in = func(e *part) bool {
		if e == nil || e.what == "fby" || e.what == "hold" {
			return false
		}
		return e.what == "name" && s.flow(e.text) == flow || slices.ContainsFunc(e.kids, in)
	}
	return in(s.decl[by].body)
}

func (s *second) cycle() (error, int) {
	n := len(s.decl)
	reach := make([][]bool, n)
	for i := range reach {
		reach[i] = make([]bool, n)
		for k := range reach[i] {
			reach[i][k] = s.needs(i, k)
		}
	}
	for via := range n {
		for i := range n {
			for k := range n {
				reach[i][k] = reach[i][k] || reach[i][via] && reach[via][k]
			}
		}
	}
	for i, l := range s.decl {
		if reach[i][i] {
			return mill.ErrCycle, l.names[0].at
		}
	}
	return nil, 0
}

// told is spelled as the test's told has it.
func (s *second) told() string {
	var out []string
	var periods []int
	for _, l := range s.decl {
		name := l.names[0].text
		text := fmt.Sprintf("%s/%s/%d", name, l.typ, s.known[name])
		if l.body == nil {
			text += "i"
		} else {
			periods = append(periods, s.known[name])
		}
		if s.outputs[name] {
			text += "o"
		}
		out = append(out, text)
	}
	slices.Sort(periods)
	for _, p := range slices.Compact(periods) {
		text := fmt.Sprintf("%d:", p)
		for _, f := range s.order(p) {
			text += s.decl[f].names[0].text
		}
		out = append(out, text)
	}
	return strings.Join(out, " ")
}

// order of the equations of a period: the first that may be taken, again and again.
func (s *second) order(period int) []int {
	var taken []int
	counts := func(f int) bool {
		return s.decl[f].body != nil && s.known[s.decl[f].names[0].text] == period && !slices.Contains(taken, f)
	}
	for f := 0; f < len(s.decl); f++ {
		waits := !counts(f)
		for k := range s.decl {
			waits = waits || counts(k) && s.needs(f, k)
		}
		if !waits {
			taken = append(taken, f)
			f = -1
		}
	}
	return taken
}

// madeUp: a text, and the second compiler of its lines.
func madeUp(r *rand.Rand, slips int) (string, *second) {
	m := &maker{rand: r, slips: slips, kind: pickOne(r, "", "twice", "name", "type", "period", "need")}
	lines := m.lines()
	w := &writer{rand: r}
	for _, l := range lines {
		w.line(l)
	}
	return w.out.String(), &second{lines: lines}
}

func TestP4AsTheSecondCompilerHasIt(t *testing.T) {
	r := rand.New(rand.NewSource(3))
	seen := map[error]int{}
	for round := range 20000 {
		text, s := madeUp(r, []int{0, 4, 10, 30, 100}[round%5])
		if _, err := mill.Parse(text); err != nil {
			if d, ok := err.(*mill.Diag); err == mill.ErrLong || ok && d.Err == mill.ErrLong {
				continue
			}
			t.Fatalf("%q: %v", text, err)
		}
		want, err, at := s.compile()
		seen[err]++
		p, got := mill.Compile(text)
		if err == nil {
			if got != nil || told(p) != want {
				t.Fatalf("%q: %v %s, want %s", text, got, told(p), want)
			}
			continue
		}
		if d, ok := got.(*mill.Diag); p != nil || !ok || d.Err != err || d.At != at {
			t.Fatalf("%q: %v, want %v at %d", text, got, err, at)
		}
	}
	for _, err := range []error{nil, mill.ErrTwice, mill.ErrName, mill.ErrType, mill.ErrPeriod, mill.ErrFree, mill.ErrCycle} {
		if seen[err] < 100 {
			t.Errorf("the texts are of too few kinds: %v", seen)
			break
		}
	}
}
