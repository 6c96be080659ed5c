package parse

import (
	"fmt"
	"math"
	"math/rand"
	"slices"
	"strings"
	"sync"
	"testing"
	"unsafe"

	"pinfold/api"
	"pinfold/lex"
	"pinfold/names"
	"pinfold/policy"
	"pinfold/record"
	"pinfold/right"
)

// toldText is what the chapter's words tell of a text anew: it goes from stop to stop, at each of which one word is looked at.
type toldText struct {
	p              policy.Policy
	first, at, and lex.Token
	rule           policy.Rule
	cond           policy.Cond
}

// toldParse: a text as a policy, told anew.
func toldParse(s string) (policy.Policy, lex.Wrong) {
	words, w := lex.Lex(s)
	if w.Err != 0 {
		return policy.Policy{}, w
	}
	x, stop := toldText{}, "policy"
	for _, t := range words {
		next, at, e := x.look(stop, t)
		if e != 0 {
			return policy.Policy{}, lex.Wrong{Line: at.Line, Col: at.Col, Err: e}
		}
		stop = next
	}
	if stop != "line" {
		return policy.Policy{}, lex.Wrong{Err: errForm}
	}
	return x.p, lex.Wrong{}
}

// kindAt is the kind of the word that has to be at a stop, where just one may be.
var kindAt = map[string]lex.Kind{
	"name": 1, "default's end": 0, "name's end": 0, "default's action": 1, "default's errno": 2, "line": 1, "line's end": 0,
	"call": 1, "action": 1, "errno": 2, "arg": 1, "sign": 4, "mask": 2, "value": 2, "handled": 1, "path": 3, "port": 2, "path's rights": 1, "port's rights": 1,
}

var (
	toldActions = map[string]record.Action{"kill": 0x80000000, "log": 0x7ffc0000, "allow": 0x7fff0000}
	toldArgs    = []string{"arg0", "arg1", "arg2", "arg3", "arg4", "arg5"}
	nextStop    = map[string]string{"policy": "name", "default": "default's action", "default's action": "default's end", "default's errno": "default's end", "action": "if", "errno": "if"}
	lineStop    = map[string]string{"call": "call", "handle": "handled", "beneath": "path", "port": "port"}
)

// look: a word at a stop: the next stop, and, if anything is wrong, at which word.
func (x *toldText) look(stop string, t lex.Token) (string, lex.Token, api.Errno) {
	kind, ok := kindAt[stop]
	if ok && t.Kind != kind {
		return "", t, errForm
	}
	if kind == 1 && stop != "handled" && !strings.HasSuffix(stop, "rights") && strings.Contains(t.Text, ",") {
		return "", t, errForm
	}
	switch stop {
	case "policy", "default":
		if t.Text != stop {
			return "", t, errForm
		}
		return nextStop[stop], t, 0
	case "name":
		if len(t.Text) > 14 {
			return "", t, errWord
		}
		x.p.Name = t.Text
		return "name's end", t, 0
	case "name's end":
		return "default", t, 0
	case "default's action", "action":
		return x.action(stop, t)
	case "default's errno", "errno":
		if t.Number == 0 || t.Number >= 4096 {
			return "", t, errRange
		}
		x.act(stop, record.Action(0x50000+t.Number))
		return nextStop[stop], t, 0
	case "default's end":
		return "line", t, 0
	case "line":
		x.first = t
		next, ok := lineStop[t.Text]
		if !ok {
			return "", t, errWord
		}
		if next == "handled" && x.p.Handled != 0 {
			return "", t, errTwice
		}
		return next, t, 0
	case "line's end":
		if len(x.p.Paths) == 33 || len(x.p.Ports) == 33 {
			return "", x.first, errMany
		}
		return "line", t, 0
	case "handled", "path's rights", "port's rights":
		return x.rights(stop, t)
	case "path":
		for _, part := range strings.Split(t.Text[1:], "/") {
			if (part == "" || part == "." || part == ".." || len(part) > 14) && t.Text != "/" {
				return "", t, errForm
			}
		}
		x.at = t
		return "path's rights", t, 0
	case "port":
		if t.Number >= 65536 {
			return "", t, errRange
		}
		x.at = t
		return "port's rights", t, 0
	}
	return x.lookAtRule(stop, t)
}

// act lays an action at where it belongs.
func (x *toldText) act(stop string, a record.Action) {
	if strings.HasPrefix(stop, "default") {
		x.p.Default = a
	} else {
		x.rule.Action = a
	}
}

func (x *toldText) action(stop string, t lex.Token) (string, lex.Token, api.Errno) {
	if t.Text == "errno" {
		return strings.Replace(stop, "action", "errno", 1), t, 0
	}
	a, ok := toldActions[t.Text]
	if !ok {
		return "", t, errWord
	}
	x.act(stop, a)
	return nextStop[stop], t, 0
}

func (x *toldText) rights(stop string, t lex.Token) (string, lex.Token, api.Errno) {
	var s right.Set
	for _, name := range strings.Split(t.Text, ",") {
		bit, ok := toldRights[name]
		if !ok {
			return "", t, errWord
		}
		if s>>bit&1 == 1 {
			return "", t, errTwice
		}
		s |= 1 << bit
	}
	if stop == "handled" {
		x.p.Handled = s
		return "line's end", t, 0
	}
	may := x.p.Handled & toldPorts
	if stop == "path's rights" {
		may = x.p.Handled & toldPaths
	}
	if s|may != may {
		return "", t, errRange
	}
	if stop == "path's rights" {
		for _, b := range x.p.Paths {
			if b.Path == x.at.Text {
				return "", x.at, errTwice
			}
		}
		x.p.Paths = append(x.p.Paths, policy.Beneath{Path: x.at.Text, Rights: s})
		return "line's end", t, 0
	}
	for _, q := range x.p.Ports {
		if uint64(q.Number) == x.at.Number {
			return "", x.at, errTwice
		}
	}
	x.p.Ports = append(x.p.Ports, policy.Port{Number: uint16(x.at.Number), Rights: s})
	return "line's end", t, 0
}

// lookAtRule: a word at a stop of a rule.
func (x *toldText) lookAtRule(stop string, t lex.Token) (string, lex.Token, api.Errno) {
	switch stop {
	case "call":
		n, ok := toldCalls[t.Text]
		if !ok {
			return "", t, errNoCall
		}
		x.rule = policy.Rule{Number: n}
		return "action", t, 0
	case "if", "and":
		if t.Kind == 0 {
			if len(x.p.Rules) == 64 {
				return "", x.first, errMany
			}
			x.p.Rules = append(x.p.Rules, x.rule)
			return "line", t, 0
		}
		if t.Text != stop {
			return "", t, errForm
		}
		x.and = t
		return "arg", t, 0
	case "arg":
		arg := slices.Index(toldArgs, t.Text)
		if arg < 0 {
			return "", t, errWord
		}
		x.cond = policy.Cond{Arg: arg}
		return "sign", t, 0
	case "sign":
		x.cond.Op = policy.Op(slices.Index(toldSigns, t.Text))
		if t.Text == "&" {
			return "mask", t, 0
		}
		return "value", t, 0
	case "mask":
		x.cond.Mask = t.Number
		return "==", t, 0
	case "==":
		if t.Text != "==" {
			return "", t, errForm
		}
		return "value", t, 0
	case "value":
		x.cond.Value = t.Number
		if x.cond.Op == policy.Masked && (x.cond.Mask == 0 || x.cond.Value|x.cond.Mask != x.cond.Mask) {
			return "", t, errRange
		}
		if len(x.rule.Conds) == 6 {
			return "", x.and, errMany
		}
		x.rule.Conds = append(x.rule.Conds, x.cond)
		return "and", t, 0
	}
	panic("no such stop: " + stop)
}

// hold holds a text's answer against what the chapter's words tell, and answers its error.
func hold(t *testing.T, x *Parser, s string) api.Errno {
	t.Helper()
	p, w := x.Parse(s)
	want, wrong := toldParse(s)
	if w != wrong || !policy.Same(p, want) {
		t.Fatalf("Parse of %q: %v, %+v; want %v, %+v", s, told(w), p, told(wrong), want)
	}
	if w == (lex.Wrong{}) {
		if e := p.Check(x.Calls()); e != api.OK {
			t.Fatalf("Parse of %q: a policy that may not be: %d: %+v", s, int(e), p)
		}
	} else if !zero(p) {
		t.Fatalf("Parse of %q: %+v beside %v", s, p, told(w))
	}
	return w.Err
}

// enough: was each error told so often, at least?
func enough(t *testing.T, seen map[api.Errno]int, least int) {
	t.Helper()
	for _, e := range []api.Errno{0, errNoCall, errWord, errForm, errRange, errMany, errTwice} {
		if seen[e] < least {
			t.Errorf("just %d texts of which %d is told", seen[e], int(e))
		}
	}
}

// holdAll holds all lists of so many words, and fewer, behind a beginning.
func holdAll(t *testing.T, x *Parser, seen map[api.Errno]int, ahead string, n int, words ...string) {
	seen[hold(t, x, ahead)]++
	if n == 0 {
		return
	}
	for _, s := range words {
		holdAll(t, x, seen, ahead+" "+s, n-1, words...)
	}
}

// P10.1: all short lists of words at which something turns, behind texts at whose end something turns.
func TestAllShort(t *testing.T) {
	x, seen := New(), map[api.Errno]int{}
	holdAll(t, x, seen, "", 4, "policy", "p", "a23456789012345", "a,b", "\n", "default", "kill", "7", "/")
	holdAll(t, x, seen, head, 3, "call", "open", "kill", "handle", "read", "beneath", "/a", "port", "7", "\n")
	granted := []string{"/a", "/b", "//", "7", "8", "65536", "read", "bind", "read,bind", "bind,bind", "write", "=="}
	for _, first := range []string{"call", "handle", "beneath", "port", "foo"} {
		holdAll(t, x, seen, head+"handle read,bind\nbeneath /b read\nport 7 bind\n"+first, 3, granted...)
	}
	for _, most := range []string{
		lines(32, func(i int) string { return fmt.Sprintf("beneath /p%d read", i) }) + "beneath /b",
		lines(32, func(i int) string { return fmt.Sprintf("port %d bind", 100+i) }) + "port 7",
		lines(64, func(int) string { return "call open kill" }) + "call",
	} {
		holdAll(t, x, seen, head+"handle read,bind\n"+most, 3, "read", "kill", "bind", "\nport 8", "\nbeneath /a", "\ncall", "\nbeneath /b")
	}
	holdAll(t, x, seen, head+"call open log if arg1", 4, "&", "==", "<", "1", "2", "0", "and", "arg0", "arg6", "if", "\n")
	for _, most := range []int{4, 5} {
		holdAll(t, x, seen, head+"call open log if arg1 & 6 == 2"+strings.Repeat(" and arg1 == 2", most), 5, "and", "if", "arg5", "arg6", "<", "3")
	}
	enough(t, seen, 20)
}

// oneOf picks one of a few.
func oneOf[T any](r *rand.Rand, few ...T) T { return few[r.Intn(len(few))] }

// howMany: mostly few; now and then as many as may be.
func howMany(r *rand.Rand, most int) int {
	if r.Intn(10) == 0 {
		return most
	}
	return r.Intn(4)
}

// chance: a policy by chance that may be.
func chance(r *rand.Rand) policy.Policy {
	p := policy.Policy{Name: oneOf(r, "p", "a-1_b", "a2345678901234"), Default: chanceAction(r), Handled: right.Set(r.Intn(1<<16)) & (toldPaths | toldPorts)}
	if r.Intn(8) == 0 {
		p.Handled = 0
	}
	for range howMany(r, 64) {
		x := policy.Rule{Number: chanceCall(r), Action: chanceAction(r)}
		for range oneOf(r, 0, 0, 1, 2, 6) {
			c := policy.Cond{Arg: r.Intn(6), Op: policy.Op(1 + r.Intn(7)), Value: r.Uint64() >> r.Intn(64)}
			if c.Op == policy.Masked {
				c.Mask = c.Value | 1<<r.Intn(64)
			}
			x.Conds = append(x.Conds, c)
		}
		p.Rules = append(p.Rules, x)
	}
	if p.Handled&toldPaths != 0 {
		for i := range howMany(r, 32) {
			p.Paths = append(p.Paths, policy.Beneath{Path: chancePath(r, i), Rights: chanceRights(r, p.Handled&toldPaths)})
		}
	}
	if p.Handled&toldPorts != 0 {
		for i := range howMany(r, 32) {
			p.Ports = append(p.Ports, policy.Port{Number: uint16(i | r.Intn(2048)<<5), Rights: chanceRights(r, p.Handled&toldPorts)})
		}
	}
	return p
}

// chanceCall: a call's number by chance; the same by chance each time, so no map is gone through.
func chanceCall(r *rand.Rand) uint32 {
	all := names.New().All()
	return all[r.Intn(len(all))].Number
}

func chanceAction(r *rand.Rand) record.Action {
	return oneOf(r, record.Kill, record.Log, record.Allow, record.Fail(api.Errno(1+r.Intn(4095))))
}

// chancePath: one that is the only one of its number.
func chancePath(r *rand.Rand, number int) string {
	if number == 0 && r.Intn(4) == 0 {
		return "/"
	}
	s := fmt.Sprintf("/%d", number)
	for range r.Intn(5) {
		s += "/" + oneOf(r, "a", "c.d", "...", "E-f", "12345678901234", "!\"$%&'()*+,-", ":;<=>?@[\\]^_`", "{|}~")
	}
	return s
}

// chanceRights: some of those that there are, one at least.
func chanceRights(r *rand.Rand, of right.Set) right.Set {
	if s := right.Set(r.Intn(1<<16)) & of; s != 0 {
		return s
	}
	return of
}

// P10.2: policies by chance that may be, as texts, are parsed as the same policies.
func TestBack(t *testing.T) {
	x := New()
	r := rand.New(rand.NewSource(102))
	full := 0
	for range 4000 {
		p := chance(r)
		if e := p.Check(x.Calls()); e != api.OK {
			t.Fatalf("by chance: %d: %+v", int(e), p)
		}
		if len(p.Rules) == 64 || len(p.Paths) == 32 || len(p.Ports) == 32 {
			full++
		}
		s := p.Text(x.Calls())
		q, w := x.Parse(s)
		if w != (lex.Wrong{}) || !policy.Same(p, q) || q.Text(x.Calls()) != s {
			t.Fatalf("%s: %v, %+v", s, told(w), q)
		}
	}
	if full < 100 {
		t.Errorf("just %d policies have as many things as may be", full)
	}
}

// P10.2: the longest policy that may be.
func TestBackLongest(t *testing.T) {
	p := policy.Policy{Name: "a2345678901234", Default: record.Fail(4095), Handled: toldPaths | toldPorts}
	for range 64 {
		x := policy.Rule{Number: names.ReadLink, Action: record.Fail(4095)}
		for range 6 {
			x.Conds = append(x.Conds, policy.Cond{Arg: 5, Op: policy.Masked, Mask: math.MaxUint64, Value: math.MaxUint64})
		}
		p.Rules = append(p.Rules, x)
	}
	for i := range 32 {
		path := strings.Repeat("/12345678901234", 7) + fmt.Sprintf("/123456789012%02d", i)
		p.Paths = append(p.Paths, policy.Beneath{Path: path, Rights: toldPaths})
		p.Ports = append(p.Ports, policy.Port{Number: uint16(65535 - i), Rights: toldPorts})
	}
	x := New()
	if e := p.Check(x.Calls()); e != api.OK {
		t.Fatalf("the longest policy may not be: %d", int(e))
	}
	if q, w := x.Parse(p.Text(x.Calls())); w != (lex.Wrong{}) || !policy.Same(p, q) {
		t.Errorf("the longest policy: %v, %+v", told(w), q)
	}
}

// words is the lines of a text, as words.
func words(s string) [][]string {
	var l [][]string
	for _, line := range strings.Split(strings.TrimSuffix(s, "\n"), "\n") {
		l = append(l, strings.Fields(line))
	}
	return l
}

// change changes a word by chance, or a line.
func change(r *rand.Rand, l [][]string) [][]string {
	i := r.Intn(len(l))
	j := r.Intn(len(l[i]) + 1)
	other := l[r.Intn(len(l))]
	word := oneOf(r, "policy", "default", "call", "handle", "beneath", "port", "open", "write", "foo", "kill", "errno", "log", "if", "and", "arg1", "arg6", "0", "1", "4095", "4096", "65535", "65536", "0xff",
		"18446744073709551615", "==", "&", "<=", "/", "/0", "/a//b", "/..", "read", "read,write", "read,read", "bind", "connect,bind", "a,", "a23456789012345", "read,foo")
	if len(other) > 0 && r.Intn(2) == 0 {
		word = oneOf(r, other...)
	}
	switch r.Intn(8) {
	case 0, 1, 2:
		if j < len(l[i]) {
			l[i] = slices.Concat(l[i][:j], []string{word}, l[i][j+1:])
		}
	case 3:
		l[i] = slices.Insert(slices.Clone(l[i]), j, word)
	case 4:
		if j < len(l[i]) {
			l[i] = slices.Delete(slices.Clone(l[i]), j, j+1)
		}
	case 5:
		l = slices.Insert(l, i, other)
	case 6:
		k := r.Intn(len(l))
		l[i], l[k] = l[k], l[i]
	case 7:
		l[i] = append(slices.Clone(l[i]), other...)
	}
	return l
}

// written is lines as a text, with this and that between its words.
func written(r *rand.Rand, l [][]string) string {
	var b strings.Builder
	for _, line := range l {
		if r.Intn(8) == 0 {
			b.WriteString(oneOf(r, "\n", "# call\n", " \t\n", "\r\n"))
		}
		b.WriteString(oneOf(r, "", "", "", " ", "\t"))
		b.WriteString(strings.Join(line, oneOf(r, " ", " ", " ", "  ", "\t")))
		b.WriteString(oneOf(r, "\n", "\n", "\n", "\r\n", " \n", "# kill\n", " # a note\n"))
	}
	return b.String()
}

// P10.1: policies' texts by chance, their lines in any order, most of them changed here and there, held against what the chapter's words tell; R8: one parser reads all of them.
func TestChance(t *testing.T) {
	x, seen := New(), map[api.Errno]int{}
	r := rand.New(rand.NewSource(101))
	for range 10000 {
		p := chance(r)
		l := words(p.Text(x.Calls()))
		if r.Intn(3) == 0 {
			behind := l[2:]
			r.Shuffle(len(behind), func(i, j int) { behind[i], behind[j] = behind[j], behind[i] })
		}
		for range oneOf(r, 0, 1, 1, 2, 3) {
			l = change(r, l)
		}
		seen[hold(t, x, written(r, l))]++
	}
	enough(t, seen, 40)
}

// P10.2: Calls is the table by which texts are read: the parser's own, the same each time.
func TestCallsTable(t *testing.T) {
	x, y := New(), New()
	table := x.Calls()
	if table == nil || table != x.Calls() || table == y.Calls() {
		t.Fatal("Calls isn't one table of each parser's own")
	}
	if asked, made := table.Counts(); asked != 0 || made != 0 {
		t.Errorf("a new parser has asked %d times, its table was made %d times", asked, made)
	}
	x.Parse(head)
	if asked, _ := table.Counts(); asked != 0 {
		t.Errorf("no call is named, and %d were asked for", asked)
	}
	x.Parse(head + "call open kill\ncall fork log\n")
	if asked, made := table.Counts(); asked != 2 || made != 1 {
		t.Errorf("two calls are named: asked %d times, made %d times", asked, made)
	}
	if asked, _ := y.Calls().Counts(); asked != 0 {
		t.Error("another parser's table was asked")
	}
	for name, n := range toldCalls {
		if c, ok := table.Named(name); !ok || c.Number != n {
			t.Errorf("%s: %v, %v", name, c, ok)
		}
	}
	if len(table.All()) != len(toldCalls) {
		t.Errorf("%d calls", len(table.All()))
	}
}

// R7: a nil parser knows nothing, whatever the text.
func TestNil(t *testing.T) {
	var x *Parser
	if x.Calls() != nil {
		t.Error("a nil parser has calls")
	}
	for _, s := range []string{"", head, "A", "foo", strings.Repeat("a", 70000)} {
		if p, w := x.Parse(s); w != (lex.Wrong{Err: errNil}) || !zero(p) {
			t.Errorf("a nil parser, %.20q: %v, %+v", s, told(w), p)
		}
	}
}

// spoil changes all that stands in a policy's lists, and their spare room.
func spoil(p policy.Policy) {
	for _, x := range p.Rules {
		l := x.Conds[:cap(x.Conds)]
		for i := range l {
			l[i] = policy.Cond{Arg: 4, Op: policy.Lt, Value: 99}
		}
	}
	for i := range p.Rules[:cap(p.Rules)] {
		p.Rules[:cap(p.Rules)][i] = policy.Rule{Number: 60}
	}
	for i := range p.Paths[:cap(p.Paths)] {
		p.Paths[:cap(p.Paths)][i] = policy.Beneath{Path: "/spoilt"}
	}
	for i := range p.Ports[:cap(p.Ports)] {
		p.Ports[:cap(p.Ports)][i] = policy.Port{Number: 9}
	}
}

const several = head + "call open kill if arg0 == 1 and arg1 == 2 and arg2 == 3\ncall open log if arg0 == 1\nhandle read,write,bind\nbeneath /a read\nbeneath /b read\nbeneath /c write\nport 7 bind\nport 8 bind\nport 9 bind\n"

// R6: an answer is new memory, and no two of its lists share any.
func TestAnswersAreNew(t *testing.T) {
	x := New()
	p, _ := x.Parse(several)
	q, _ := x.Parse(several)
	was := q.Text(x.Calls())
	spoil(p)
	again, _ := x.Parse(several)
	if q.Text(x.Calls()) != was || again.Text(x.Calls()) != was || was != strings.Replace(several, "read,write", "write,read", 1) {
		t.Errorf("an answer changed with another one: %s", q.Text(x.Calls()))
	}
	l := q.Rules[0].Conds[:cap(q.Rules[0].Conds)]
	for i := range l {
		l[i].Arg = 5
	}
	if q.Rules[1].Conds[0].Arg != 0 {
		t.Error("two lists of an answer are one")
	}
}

// R6: nothing of the text is kept in the answer.
func TestTextIsNotKept(t *testing.T) {
	s := strings.Clone(several)
	p, _ := New().Parse(s)
	from := uintptr(unsafe.Pointer(unsafe.StringData(s)))
	for _, part := range []string{p.Name, p.Paths[0].Path, p.Paths[2].Path} {
		if at := uintptr(unsafe.Pointer(unsafe.StringData(part))); from <= at && at < from+uintptr(len(s)) {
			t.Errorf("%q is a piece of the text", part)
		}
	}
}

// R8: what a parser answers doesn't depend on what it read before, nor on who else asks meanwhile.
func TestAtOnce(t *testing.T) {
	x := New()
	want, _ := New().Parse(several)
	var all sync.WaitGroup
	for range 16 {
		all.Go(func() {
			for range 100 {
				if _, w := x.Parse(several + "call foo kill\n"); w != (lex.Wrong{Line: 12, Col: 6, Err: errNoCall}) {
					t.Errorf("a wrong text, asked at once: %v", told(w))
				}
				if p, w := x.Parse(several); w != (lex.Wrong{}) || !policy.Same(p, want) {
					t.Errorf("another answer, asked at once: %v", told(w))
				}
			}
		})
	}
	all.Wait()
}

// P1: it ends, and doesn't panic, whatever bytes a text has, and whoever made the parser.
func TestAnyBytes(t *testing.T) {
	r := rand.New(rand.NewSource(1))
	x := New()
	for range 5000 {
		b := []byte(several)
		for range 1 + r.Intn(4) {
			b[r.Intn(len(b))] = oneOf(r, byte(r.Intn(256)), '\n', ' ', 'a', '1', ',', '/')
		}
		from := r.Intn(len(b))
		hold(t, x, string(b))
		hold(t, x, string(b[from:]))
		hold(t, x, string(b[:from]))
		new(Parser).Parse(string(b))
	}
	if new(Parser).Calls() != nil {
		t.Error("a parser that New didn't make knows calls")
	}
	for _, s := range []string{strings.Repeat("\x00", 65536), strings.Repeat("policy ", 9000), strings.Repeat("\n", 65536), "policy " + strings.Repeat("a,", 32000), head + "handle " + strings.Repeat("read,", 13000), head + "call open kill if " + strings.Repeat("arg0 == 1 and ", 4600)} {
		hold(t, x, s)
		new(Parser).Parse(s)
	}
}
