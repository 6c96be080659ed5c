package compile

import (
	"fmt"
	"math"
	"math/rand"
	"slices"
	"strings"
	"sync"
	"testing"

	"pinfold/api"
	"pinfold/check"
	"pinfold/insn"
	"pinfold/ir"
	"pinfold/jump"
	"pinfold/lower"
	"pinfold/mean"
	"pinfold/names"
	"pinfold/parse"
	"pinfold/policy"
	"pinfold/record"
	"pinfold/right"
	"pinfold/vm"
)

// parsed is the policy of a text.
func parsed(t *testing.T, text string) policy.Policy {
	t.Helper()
	p, w := parse.New().Parse(text)
	if w.Err != api.OK {
		t.Fatalf("%q: %+v", text, w)
	}
	return p
}

// loaded is the filter of instructions.
func loaded(t *testing.T, l ...insn.Insn) *vm.Filter {
	t.Helper()
	f, w := vm.Load(l)
	if w != (check.Wrong{}) {
		t.Fatalf("%v: %+v", l, w)
	}
	return f
}

// one is a policy of one rule of open.
func one(conds ...policy.Cond) policy.Policy {
	return policy.Policy{Name: "p", Default: record.Allow, Rules: []policy.Rule{{Number: names.Open, Action: record.Fail(13), Conds: conds}}}
}

// The document's example: of policy p, default allow, a filter of five instructions.
func TestExample(t *testing.T) {
	for _, action := range []string{"allow", "log", "kill", "errno 1", "errno 4095"} {
		p := parsed(t, "policy p\ndefault "+action+"\n")
		f := wantCompiled(t, p, call(0), call(2, 1, 2, 3), call(math.MaxUint32), foreign(call(2), 0), foreign(call(2), record.Arch+1))
		l, _ := Plain(p, table)
		if f.Len() != 5 || len(l) != 5 {
			t.Errorf("%s: %d instructions, %d of Plain", action, f.Len(), len(l))
		}
	}
}

// P15.1: Peep leaves out a load of what is loaded already, and nothing else.
func TestPeep(t *testing.T) {
	four, eight := load(4), load(8)
	mask, ret := plain(insn.Mask(math.MaxUint32)), plain(insn.Return(7))
	ask := compares(insn.Jeq, 7, 1, 2)
	for _, l := range [][2][]jump.Part{
		{{}, {}},
		{{four}, {four}},
		{{four, four}, {four}},
		{{four, four, four, four}, {four}},
		{{four, eight}, {four, eight}},
		{{four, eight, four}, {four, eight, four}},
		{{four, eight, eight, four, four}, {four, eight, four}},
		{{four, ask, four, ret}, {four, ask, ret}},
		{{four, goes(1), four, ask, goes(2), four, here(1), four}, {four, goes(1), ask, goes(2), here(1), four}},
		{{four, here(1), four}, {four, here(1), four}},
		{{here(1), four, four}, {here(1), four}},
		{{four, here(1), here(2), four, four}, {four, here(1), here(2), four}},
		{{four, mask, four}, {four, mask, four}},
		{{four, four, mask, mask}, {four, mask, mask}},
		{{four, ret, four}, {four, ret, four}},
		{{four, plain(insn.Insn{Code: insn.Ldx, K: 4}), four}, {four, plain(insn.Insn{Code: insn.Ldx, K: 4}), four}},
		{{mask, mask, ret, ret, ask, ask, goes(1), goes(1), here(1), here(1)}, {mask, mask, ret, ret, ask, ask, goes(1), goes(1), here(1), here(1)}},
	} {
		if got := Peep(l[0]); !slices.Equal(got, l[1]) {
			t.Errorf("%+v: %+v, want %+v", l[0], got, l[1])
		}
	}
}

// strange is parts that say what no Builder says: a kind's fields with another one's things, kinds that there aren't.
func strange() []jump.Part {
	l := []jump.Part{{}, {Kind: 5, Insn: insn.Load(4)}, {Kind: 255, To: 1, Else: 2, Insn: insn.Load(4)}}
	for kind := range jump.Goto {
		l = append(l, jump.Part{Kind: kind, Insn: insn.Load(4)})
	}
	return append(l, jump.Part{Kind: jump.Goto, To: 1, Insn: insn.Load(4)}, jump.Part{Kind: jump.Plain, To: 3, Else: 4, Insn: insn.Insn{Code: insn.Ld | insn.Abs, Jt: 1, Jf: 2, K: 4}})
}

// P15.1: all lists of up to four parts, right and strange ones, are held against the chapter's words.
func TestPeepAllLists(t *testing.T) {
	few := append(strange(), load(4), load(8), here(1), goes(1), plain(insn.Mask(4)), plain(insn.Insn{Code: insn.Ld | insn.Imm, K: 4}))
	var l []jump.Part
	var grow func(left int)
	grow = func(left int) {
		if got, want := Peep(l), toldPeep(l); !slices.Equal(got, want) {
			t.Fatalf("%+v: %+v, want %+v", l, got, want)
		}
		if left == 0 {
			return
		}
		for _, p := range few {
			l = append(l, p)
			grow(left - 1)
			l = l[:len(l)-1]
		}
	}
	grow(4)
}

// P15.1: of all codes a load by Abs alone goes, or lets another one go.
func TestPeepCodes(t *testing.T) {
	for code := range 1 << 16 {
		x := plain(insn.Insn{Code: uint16(code), K: 4})
		for _, l := range [][]jump.Part{{load(4), x}, {x, load(4)}, {x, x}, {load(4), x, load(4)}, {load(8), x}} {
			want := slices.Clone(l)
			if code == 0x20 && l[0].Insn.K == 4 {
				want = []jump.Part{load(4)}
			}
			if got := Peep(l); !slices.Equal(got, want) {
				t.Fatalf("%+v: %+v, want %+v", l, got, want)
			}
		}
	}
	for bit := range 32 {
		l := []jump.Part{load(4), load(4 ^ 1<<bit), load(4)}
		if got := Peep(l); !slices.Equal(got, l) {
			t.Errorf("%+v: %+v", l, got)
		}
	}
}

// P15.1: Plain's instructions are Make's of lower's parts of the plan.
func TestPlain(t *testing.T) {
	r := rand.New(rand.NewSource(2))
	for range 1000 {
		p := chancePolicy(r)
		got, e := Plain(p, table)
		want, e2 := jump.Make(lower.Parts(ir.Of(p)))
		if e != api.OK || e2 != api.OK || !slices.Equal(got, want) {
			t.Fatalf("%s: %v, %d, want %v, %d", p.Text(table), got, e, want, e2)
		}
	}
}

// P15.1: Insns are as many as Make's of Peep of lower's parts, tidied or not, the fewer of these.
func TestInsns(t *testing.T) {
	r := rand.New(rand.NewSource(4))
	for range 1000 {
		p := chancePolicy(r)
		parts := lower.Parts(ir.Of(p))
		want := min(len(made(t, Peep(parts))), len(made(t, Peep(jump.Tidy(parts)))), len(made(t, jump.Tidy(Peep(parts)))))
		if got, e := Insns(p, table); e != api.OK || len(got) != want {
			t.Fatalf("%s: %d instructions, %d, want %d", p.Text(table), len(got), e, want)
		}
	}
}

// wrong is policies that may not be, and why.
func wrong() map[string]policy.Policy {
	l := map[string]policy.Policy{}
	for _, s := range []string{"name", "default", "rules", "paths", "ports", "handled", "call", "action", "conds", "arg", "op", "mask", "masked", "path", "beneath", "path twice", "port", "port twice"} {
		p := one(policy.Cond{Op: policy.Eq, Value: 7})
		p.Handled = right.Read | right.Bind
		p.Paths = []policy.Beneath{{Path: "/", Rights: right.Read}}
		p.Ports = []policy.Port{{Number: 80, Rights: right.Bind}}
		x := &p.Rules[0]
		switch s {
		case "name":
			p.Name = "P"
		case "default":
			p.Default = 7
		case "rules":
			p.Rules = slices.Repeat(p.Rules, api.MaxRules+1)
		case "paths":
			p.Paths = slices.Repeat(p.Paths, api.MaxPaths+1)
		case "ports":
			p.Ports = slices.Repeat(p.Ports, api.MaxPorts+1)
		case "handled":
			p.Handled = ^right.Set(0)
		case "call":
			x.Number = 5
		case "action":
			x.Action = record.Errno
		case "conds":
			x.Conds = slices.Repeat(x.Conds, api.MaxConds+1)
		case "arg":
			x.Conds[0].Arg = 6
		case "op":
			x.Conds[0].Op = 8
		case "mask":
			x.Conds[0].Mask = 1
		case "masked":
			x.Conds[0] = policy.Cond{Op: policy.Masked, Mask: 1, Value: 2}
		case "path":
			p.Paths[0].Path = "a"
		case "beneath":
			p.Paths[0].Rights = right.Write
		case "path twice":
			p.Paths = slices.Repeat(p.Paths, 2)
		case "port":
			p.Ports[0].Rights = 0
		case "port twice":
			p.Ports = slices.Repeat(p.Ports, 2)
		}
		l[s] = p
	}
	return l
}

// wantError wants an error of a policy, and nothing beside it.
func wantError(t *testing.T, what string, p policy.Policy, calls *names.Table, want api.Errno) {
	t.Helper()
	l, e := Plain(p, calls)
	if e != want || len(l) != 0 {
		t.Errorf("%s: Plain: %v, %d, want %d", what, l, e, want)
	}
	l, e = Insns(p, calls)
	if e != want || len(l) != 0 {
		t.Errorf("%s: Insns: %v, %d, want %d", what, l, e, want)
	}
	f, e := Filter(p, calls)
	if e != want || f != nil {
		t.Errorf("%s: Filter: %v, %d, want %d", what, f, e, want)
	}
}

// P15.1, R2, R3, R7: of a policy that may not be Plain, Insns and Filter answer what its Check does, and nothing beside it.
func TestErrors(t *testing.T) {
	seen := map[api.Errno]int{}
	for what, p := range wrong() {
		want := p.Check(table)
		seen[want]++
		wantError(t, what, p, table, want)
		wantError(t, what+", no calls", p, nil, api.ErrNil)
	}
	wantError(t, "no policy", policy.Policy{}, table, api.ErrWord)
	wantError(t, "no calls", one(), nil, api.ErrNil)
	for _, e := range []api.Errno{api.ErrWord, api.ErrKind, api.ErrMany, api.ErrRange, api.ErrNoCall, api.ErrForm, api.ErrTwice} {
		if seen[e] == 0 {
			t.Errorf("%d didn't come", e)
		}
	}
	if seen[api.OK] > 0 {
		t.Error("some may be")
	}
}

// P15.1: paths, ports and names don't count: policies that differ in these alone have the same filter.
func TestCallsAlone(t *testing.T) {
	p := parsed(t, "policy p\ndefault allow\ncall open errno 13 if arg1 & 2 == 2\n")
	q := parsed(t, "policy other\ndefault allow\nhandle read,bind\nbeneath /a read\ncall open errno 13 if arg1 & 2 == 2\nport 80 bind\n")
	if !slices.Equal(filter(t, p).Insns(), filter(t, q).Insns()) {
		t.Error("filters differ")
	}
}

// far is parts of which so many comparisons go to a name close by, from which it goes on to one that is so many instructions further.
func far(asks, between int) []jump.Part {
	near, middle, end := jump.Name(1), jump.Name(2), jump.Name(3)
	l := []jump.Part{load(0)}
	for i := range asks {
		next := jump.Name(10 + i)
		l = append(l, compares(insn.Jeq, uint32(1+i), near, next), here(next))
	}
	l = append(l, compares(insn.Jeq, 77, middle, near), here(near), goes(end), here(middle))
	for range between {
		l = append(l, plain(insn.Mask(77)))
	}
	return append(l, plain(insn.Return(1)), here(end), plain(insn.Return(2)))
}

// P15.1: tidied parts are taken where that makes less instructions, others where that makes more; loads go from either.
func TestLeast(t *testing.T) {
	for _, x := range []struct {
		name          string
		l             []jump.Part
		plain, fewest int
	}{
		{"nothing to do", []jump.Part{load(0), plain(insn.Return(7))}, 2, 2},
		{"unused", []jump.Part{goes(1), plain(insn.Return(5)), here(1), plain(insn.Return(7))}, 3, 1},
		{"loads", []jump.Part{load(4), load(4), plain(insn.Return(7))}, 3, 2},
		{"loads behind what is tidied", []jump.Part{load(4), goes(1), here(1), load(4), plain(insn.Return(7))}, 4, 2},
		{"no way is far", far(20, 100), 125, 125},
		{"far ways", far(20, 300), 325, 325},
		{"far ways and loads", slices.Concat([]jump.Part{load(0), load(0)}, far(20, 300)), 327, 325},
	} {
		l := made(t, x.l)
		got := fewest(t, x.l)
		if len(l) != x.plain || len(got) != x.fewest {
			t.Errorf("%s: %d instructions, %d are left, want %d, %d", x.name, len(l), len(got), x.plain, x.fewest)
		}
		wantSame(t, got, l)
	}
	if n := len(made(t, jump.Tidy(far(20, 300)))); n <= 325 {
		t.Errorf("tidied %d", n)
	}
}

// P15.1: ErrMany comes where there are too many instructions tidied and not tidied alone.
func TestLeastMany(t *testing.T) {
	unused := append([]jump.Part{goes(1)}, slices.Repeat([]jump.Part{plain(insn.Return(5))}, 5000)...)
	unused = append(unused, here(1), plain(insn.Return(7)))
	used := append(slices.Repeat([]jump.Part{plain(insn.Mask(5))}, 4095), plain(insn.Return(7)))
	for _, x := range []struct {
		name    string
		l       []jump.Part
		n       int
		e       api.Errno
		as, dry api.Errno // of the parts as they are, and tidied
	}{
		{"unused", unused, 1, api.OK, api.ErrMany, api.OK},
		{"far ways", far(200, 3700), 3905, api.OK, api.OK, api.ErrMany},
		{"just as many", used, 4096, api.OK, api.OK, api.OK},
		{"one more", append(slices.Clone(used[:1]), used...), 0, api.ErrMany, api.ErrMany, api.ErrMany},
		{"one load more", append([]jump.Part{load(0), load(0)}, used[1:]...), 4096, api.OK, api.ErrMany, api.ErrMany},
	} {
		_, as := jump.Make(x.l)
		_, dry := jump.Make(jump.Tidy(x.l))
		if as != x.as || dry != x.dry {
			t.Errorf("%s: %d, tidied %d, want %d, %d", x.name, as, dry, x.as, x.dry)
		}
		if l, e := least(x.l); e != x.e || len(l) != x.n {
			t.Errorf("%s: %d instructions, %d, want %d, %d", x.name, len(l), e, x.n, x.e)
		}
	}
}

// full is a policy of 64 rules of six conditions each, of unlike arguments, of some calls.
func full(calls []names.Call, cond func(i int) policy.Cond) policy.Policy {
	p := policy.Policy{Name: "p", Default: record.Allow}
	for i := range api.MaxRules {
		x := policy.Rule{Number: calls[i%len(calls)].Number, Action: record.Fail(api.Errno(1 + i))}
		for j := range api.MaxConds {
			c := cond(6*i + j)
			c.Arg = j
			x.Conds = append(x.Conds, c)
		}
		p.Rules = append(p.Rules, x)
	}
	return p
}

// P15.1: the greatest policies have filters, which say what the policies say in no more steps than the chapter tells.
func TestGreatest(t *testing.T) {
	ways := []func(i int) policy.Cond{
		func(i int) policy.Cond { return policy.Cond{Op: policy.Op(1 + i%7), Mask: uint64(i%7/6) * 7, Value: 7} },
		func(int) policy.Cond { return policy.Cond{Op: policy.Masked, Mask: 1<<63 | 1, Value: 1<<63 | 1} },
		func(i int) policy.Cond { return policy.Cond{Op: policy.Ne, Value: uint64(i) << 32} },
	}
	for op := policy.Eq; op <= policy.Ge; op++ {
		ways = append(ways, func(int) policy.Cond { return policy.Cond{Op: op, Value: 7<<32 | 7} })
	}
	var l []record.Record
	for _, c := range table.All() {
		for _, n := range []uint64{0, 7, 8, 7<<32 | 7, 7<<32 | 8, 7<<32 | 6, 1<<63 | 1, math.MaxUint64} {
			l = append(l, call(c.Number, n, n, n, n, n, n), call(c.Number, n, n, n, n, n, 0), call(c.Number+1, n))
		}
	}
	for _, way := range ways {
		for _, n := range []int{1, 2, 3, 16, 29, 30} {
			p := full(table.All()[30-n:], way)
			wantCompiled(t, p, append(l, Edges(p)...)...)
		}
	}
}

// P15.1: so have policies whose rules ask one argument six times, or nothing, and those of which every call has a rule.
func TestOtherGreat(t *testing.T) {
	same := full(table.All()[:1], func(i int) policy.Cond { return policy.Cond{Op: policy.Ne, Value: uint64(i)<<32 | 5} })
	for _, x := range same.Rules {
		for i := range x.Conds {
			x.Conds[i].Arg = 3
		}
	}
	wantCompiled(t, same, Edges(same)...)
	nothing := full(table.All(), func(int) policy.Cond { return policy.Cond{Op: policy.Ge} })
	wantCompiled(t, nothing, Edges(nothing)...)
	for n := range 31 {
		p := policy.Policy{Name: "p", Default: record.Log}
		for i, c := range table.All()[:n] {
			p.Rules = append(p.Rules, policy.Rule{Number: c.Number, Action: record.Fail(api.Errno(1 + i))})
		}
		var l []record.Record
		for number := range uint32(500) {
			l = append(l, call(number))
		}
		wantCompiled(t, p, l...)
	}
}

// P15.1, P3: the filter of a policy's text says of calls what the policy says.
func TestText(t *testing.T) {
	p := parsed(t, "policy p\ndefault kill\ncall open allow\ncall open errno 13 if arg1 & 2 == 2\ncall open log if arg0 > 0x100000007 and arg1 <= 9\ncall read errno 5 if arg2 != 4294967296\ncall read allow\ncall write allow if arg0 < 0\n")
	var l []record.Record
	values := []uint64{0, 1, 2, 3, 7, 9, 10, 1 << 32, 1<<32 | 7, 1<<32 | 8, 1<<32 | 10, 2 << 32, math.MaxUint64}
	for _, number := range []uint32{names.Open, names.Read, names.Write, names.Restrict, 5} {
		for _, a := range values {
			for _, b := range values {
				l = append(l, call(number, a, b, a), foreign(call(number, a, b, a), 0))
			}
		}
	}
	f := wantCompiled(t, p, l...)
	if a, _ := f.Run(call(names.Open, 0, 3)); a != record.Fail(13) {
		t.Errorf("%#x", uint32(a))
	}
	if a, _ := f.Run(call(names.Write)); a != record.Kill {
		t.Errorf("%#x", uint32(a))
	}
}

// P15.1: all policies of up to three of some rules have filters that say what they say.
func TestAllSmall(t *testing.T) {
	rule := func(number uint32, a record.Action, conds ...policy.Cond) policy.Rule {
		return policy.Rule{Number: number, Action: a, Conds: conds}
	}
	is := func(n uint64) policy.Cond { return policy.Cond{Op: policy.Eq, Value: n} }
	above := policy.Cond{Arg: 1, Op: policy.Gt, Value: 4}
	rules := []policy.Rule{
		rule(2, record.Allow), rule(2, record.Log, is(1)), rule(2, record.Log, above), rule(2, record.Fail(1), is(1), above), rule(2, record.Fail(2), policy.Cond{Arg: 2, Op: policy.Ge}),
		rule(2, record.Kill, is(1), is(2)), rule(2, record.Kill, above, is(3)), rule(2, record.Fail(4), policy.Cond{Op: policy.Masked, Mask: 3, Value: 2}), rule(3, record.Log, is(1)), rule(1, record.Fail(5)),
	}
	var l []record.Record
	for number := range uint32(5) {
		for n := range uint64(4) {
			l = append(l, call(number, n, 4), call(number, n, 5), call(number, n, 1<<32))
		}
	}
	l = append(l, foreign(l[0], 1))
	p := policy.Policy{Name: "p", Default: record.Fail(99)}
	var grow func(left int)
	grow = func(left int) {
		wantCompiled(t, p, l...)
		if left == 0 {
			return
		}
		for _, x := range rules {
			p.Rules = append(p.Rules, x)
			grow(left - 1)
			p.Rules = p.Rules[:len(p.Rules)-1]
		}
	}
	grow(3)
}

// P15.2: the first record at which a filter says something else is told, as it is; of none, none.
func TestDifference(t *testing.T) {
	p := one(policy.Cond{Arg: 1, Op: policy.Gt, Value: 5})
	same, other := filter(t, p), filter(t, one(policy.Cond{Arg: 1, Op: policy.Gt, Value: 7}))
	five, six, seven, eight := call(2, 0, 5), call(2, 0, 6), call(2, 0, 7), call(2, 0, 8)
	six.At, seven.Args[5] = 99, 98
	for _, x := range []struct {
		l    []record.Record
		want int // where it stands, -1: nowhere
	}{
		{nil, -1},
		{[]record.Record{}, -1},
		{[]record.Record{five, eight, call(3, 0, 6), foreign(six, 1)}, -1},
		{[]record.Record{six}, 0},
		{[]record.Record{six, seven}, 0},
		{[]record.Record{seven, six}, 0},
		{[]record.Record{five, eight, seven, five, six}, 2},
		{[]record.Record{five, eight, five, six}, 3},
	} {
		var want record.Record
		if x.want >= 0 {
			want = x.l[x.want]
		}
		if got, is := Difference(p, other, x.l); got != want || is != (x.want >= 0) {
			t.Errorf("%+v: %+v, %v", x.l, got, is)
		}
		if got, is := Difference(p, same, x.l); got != (record.Record{}) || is {
			t.Errorf("the same, %+v: %+v, %v", x.l, got, is)
		}
	}
}

// P15.2: what a filter says counts whole, its low bits too, not merely as which kind it counts; a foreign machine's calls count, too.
func TestDifferenceOfBits(t *testing.T) {
	says := []record.Action{record.Kill, 0, 7, record.Kill | 1, record.Errno, record.Fail(1), record.Fail(2), 0x0005ffff, record.Log, record.Log | 1, record.Allow, record.Allow | 1, math.MaxUint32}
	for _, a := range says {
		for _, b := range says {
			p := policy.Policy{Default: a}
			f := loaded(t, insn.Return(uint32(b)))
			if _, is := Difference(p, f, []record.Record{call(2)}); is != (a != b) {
				t.Errorf("%#x, %#x: %v", uint32(a), uint32(b), is)
			}
			if _, is := Difference(p, f, []record.Record{foreign(call(2), 7)}); is != (b != record.Kill) {
				t.Errorf("foreign, %#x: %v", uint32(b), is)
			}
		}
	}
}

// P15.2: a nil filter says Kill (chapter 6).
func TestDifferenceOfNone(t *testing.T) {
	p := one(policy.Cond{Op: policy.Eq, Value: 7})
	p.Default = record.Kill
	l := []record.Record{call(2, 6), foreign(call(2, 7), 0), call(1, 7), call(2, 7, 1), call(2, 7, 2)}
	if got, is := Difference(p, nil, l); got != l[3] || !is {
		t.Errorf("%+v, %v", got, is)
	}
	if got, is := Difference(p, nil, l[:3]); got != (record.Record{}) || is {
		t.Errorf("%+v, %v", got, is)
	}
}

// P15.2: a policy that may not be is held against a filter by its plan, too.
func TestDifferenceOfWrong(t *testing.T) {
	for what, p := range wrong() {
		l := []record.Record{call(2, 7), call(5, 7), call(2, 3), call(2, 6), foreign(call(2, 7), 1)}
		parts := lower.Parts(ir.Of(p))
		f := loaded(t, made(t, parts)...)
		if got, is := Difference(p, f, l); got != (record.Record{}) || is {
			t.Errorf("%s: %+v", what, got)
		}
		for _, r := range l {
			wanted := loaded(t, insn.Return(uint32(mean.Says(p, r))^1))
			if got, is := Difference(p, wanted, []record.Record{r}); got != r || !is {
				t.Errorf("%s: %+v, %v", what, got, is)
			}
		}
	}
}

// P15.2: the edges of a policy without rules, and of one of two, as they stand in the chapter.
func TestEdges(t *testing.T) {
	first := []record.Record{{Arch: 0xc000003e}, {Arch: 0xc000003f}}
	if got := Edges(policy.Policy{}); !slices.Equal(got, first) {
		t.Errorf("%+v", got)
	}
	p := parsed(t, "policy p\ndefault allow\nhandle read\ncall write kill\ncall open log if arg1 & 0xf0 == 0x10 and arg5 < 4294967297\n")
	want := append(first, call(1), call(2, 0, 16, 0, 0, 0, 1<<32|1))
	for _, n := range []uint64{15, 17, 1<<32 | 16, 0xffffffffffffff1f, 0} {
		want = append(want, call(2, 0, n, 0, 0, 0, 1<<32|1))
	}
	for _, n := range []uint64{1 << 32, 1<<32 | 2, 1, math.MaxUint64, 0} {
		want = append(want, call(2, 0, 16, 0, 0, 0, n))
	}
	if got := Edges(p); !slices.Equal(got, want) {
		t.Errorf("%+v, want %+v", got, want)
	}
}

// P15.2: numbers beside the least one and the greatest one go round; each bit of a mask, and of a value, counts.
func TestEdgesOfNumbers(t *testing.T) {
	for _, x := range []struct{ mask, value, less, more, turned, all uint64 }{
		{0, 0, math.MaxUint64, 1, 1 << 32, math.MaxUint64},
		{0, math.MaxUint64, math.MaxUint64 - 1, 0, math.MaxUint64 - 1<<32, math.MaxUint64},
		{0, 1 << 32, math.MaxUint32, 1<<32 + 1, 0, math.MaxUint64},
		{0, math.MaxUint32, math.MaxUint32 - 1, 1 << 32, 1<<33 - 1, math.MaxUint64},
		{math.MaxUint64, 5, 4, 6, 1<<32 | 5, 5},
		{math.MaxUint64 - 8, 5, 4, 6, 1<<32 | 5, 13},
		{1 << 63, 0, math.MaxUint64, 1, 1 << 32, math.MaxInt64},
		{1, 3, 2, 4, 1<<32 | 3, math.MaxUint64}, // which may not be: a bit that the mask hasn't stays one
	} {
		for arg := range 6 {
			for op := range 256 {
				var want []record.Record
				for _, n := range []uint64{x.value, x.less, x.more, x.turned, x.all, 0} {
					r := call(2)
					r.Args[arg] = n
					want = append(want, r)
				}
				got := Edges(one(policy.Cond{Arg: arg, Op: policy.Op(op), Mask: x.mask, Value: x.value}))
				if !slices.Equal(got[2:], want) {
					t.Fatalf("%+v: %+v, want %+v", x, got[2:], want)
				}
			}
		}
	}
}

// P15.2: of two conditions of one argument the last one's number counts, while both are gone round; one of an argument that there isn't has no record.
func TestEdgesOfArguments(t *testing.T) {
	a, b := policy.Cond{Arg: 3, Op: policy.Ge, Value: 10}, policy.Cond{Arg: 3, Op: policy.Lt, Value: 20}
	c := policy.Cond{Arg: 0, Op: policy.Eq, Value: 30}
	around := func(n uint64, first uint64) []record.Record {
		var l []record.Record
		for _, n := range []uint64{n - 1, n + 1, n + 1<<32, math.MaxUint64, 0} {
			l = append(l, call(2, first, 0, 0, n))
		}
		return l
	}
	want := append([]record.Record{call(2, 30, 0, 0, 20)}, slices.Concat(around(10, 30), around(20, 30))...)
	for _, n := range []uint64{29, 31, 30 + 1<<32, math.MaxUint64, 0} {
		want = append(want, call(2, n, 0, 0, 20))
	}
	if got := Edges(one(a, b, c)); !slices.Equal(got[2:], want) {
		t.Errorf("%+v, want %+v", got[2:], want)
	}
	for _, arg := range []int{-1, 6, 7, math.MinInt, math.MaxInt, 1 << 32, 1<<32 + 3} {
		no := policy.Cond{Arg: arg, Op: policy.Eq, Value: 99}
		for _, l := range [][]policy.Cond{{no, a, b, c}, {a, no, b, no, c}, {a, b, c, no}} {
			if got := Edges(one(l...)); !slices.Equal(got[2:], want) {
				t.Errorf("%d: %+v, want %+v", arg, got[2:], want)
			}
		}
		if got := Edges(one(no)); !slices.Equal(got[2:], []record.Record{call(2)}) {
			t.Errorf("%d: %+v", arg, got[2:])
		}
	}
}

// P15.2: a policy's edges tell it from those whose one condition is another one beside it.
func TestEdgesTell(t *testing.T) {
	values := []uint64{0, 1, 2, 5, math.MaxUint32 - 1, math.MaxUint32, 1 << 32, 1<<32 + 1, 7<<32 | 7, math.MaxUint64 - 2, math.MaxUint64 - 1, math.MaxUint64}
	for _, value := range values {
		for op := policy.Eq; op <= policy.Ge; op++ {
			a := policy.Cond{Arg: 2, Op: op, Value: value}
			for other := policy.Eq; other <= policy.Ge; other++ {
				for _, n := range []uint64{value - 1, value, value + 1} {
					wantTold(t, a, policy.Cond{Arg: 2, Op: other, Value: n}, append(values, value-1, value+1))
				}
			}
		}
		eq := policy.Cond{Op: policy.Eq, Value: value}
		if low := (policy.Cond{Op: policy.Masked, Mask: math.MaxUint32, Value: value & math.MaxUint32}); !differs(t, one(eq), one(low)) {
			t.Errorf("%#x: the high half", value)
		}
		for bit := range 64 {
			mask := uint64(0x5555555555555555) &^ (1 << bit)
			a := policy.Cond{Op: policy.Masked, Mask: mask, Value: value & mask}
			if more := (policy.Cond{Op: policy.Masked, Mask: mask | 1<<bit, Value: value & mask}); !differs(t, one(a), one(more)) {
				t.Errorf("%#x, %#x: bit %d", mask, value, bit)
			}
		}
	}
}

// wantTold wants a policy of a condition to be told from that of another one, if they don't mean the same at some numbers.
func wantTold(t *testing.T, a, b policy.Cond, l []uint64) {
	t.Helper()
	unlike := slices.ContainsFunc(l, func(n uint64) bool { return toldHolds(a, n) != toldHolds(b, n) })
	if differs(t, one(a), one(b)) != unlike {
		t.Errorf("%+v, %+v: %v", a, b, !unlike)
	}
}

// differs: does another policy's filter say something else at some of a policy's edges?
func differs(t *testing.T, p, q policy.Policy) bool {
	t.Helper()
	_, is := Difference(p, filter(t, q), Edges(p))
	return is
}

// R5: lists that are nil or empty mean the same.
func TestEmptyLists(t *testing.T) {
	a := policy.Policy{Name: "p", Default: record.Allow, Rules: []policy.Rule{{Number: 2, Action: record.Kill}}}
	b := policy.Policy{Name: "p", Default: record.Allow, Rules: []policy.Rule{{Number: 2, Action: record.Kill, Conds: []policy.Cond{}}}, Paths: []policy.Beneath{}, Ports: []policy.Port{}}
	if !slices.Equal(filter(t, a).Insns(), filter(t, b).Insns()) || !slices.Equal(Edges(a), Edges(b)) {
		t.Error("conditions")
	}
	if len(Peep(nil)) != 0 || len(Peep([]jump.Part{})) != 0 || len(Edges(policy.Policy{Rules: []policy.Rule{}})) != 2 {
		t.Error("none")
	}
}

// R6: an answer is new memory, and what is handed in is neither changed, spare room included, nor kept.
func TestMemory(t *testing.T) {
	conds := []policy.Cond{{Arg: 1, Op: policy.Ge, Value: 3}, {Arg: 1, Op: policy.Ge, Value: 3}, {Op: policy.Ge}, {Arg: 77}, {Arg: 78}}
	rules := []policy.Rule{{Number: 2, Action: record.Log, Conds: conds[:3]}, {Number: 1, Action: record.Fail(5), Conds: conds[1:2]}, {Number: 77}, {Number: 78}}
	p := policy.Policy{Name: "p", Default: record.Allow, Rules: rules[:2]}
	was := fmt.Sprintf("%#v %#v", conds, rules)
	f := filter(t, p)
	want, edges := f.Insns(), Edges(p)
	first, _ := Plain(p, table)
	second, _ := Insns(p, table)
	clear(first[:cap(first)])
	clear(second[:cap(second)])
	l := Edges(p)
	spare := append(l, call(5))[:len(l)]
	if r, is := Difference(p, f, spare); is || !slices.Equal(l, edges) || spare[:len(l)+1][len(l)] != call(5) {
		t.Errorf("%+v, or the list was changed", r)
	}
	clear(l[:cap(l)])
	again, _ := Insns(p, table)
	if !slices.Equal(again, want) || !slices.Equal(f.Insns(), want) || !slices.Equal(Edges(p), edges) {
		t.Error("two answers share memory")
	}
	if fmt.Sprintf("%#v %#v", conds, rules) != was {
		t.Error("what was handed in was changed")
	}
	says, _ := f.Run(call(2, 0, 3))
	clear(conds)
	clear(rules)
	if a, _ := f.Run(call(2, 0, 3)); a != says || a != record.Log || !slices.Equal(f.Insns(), want) {
		t.Error("what was handed in was kept")
	}
}

// R6: so it is with parts.
func TestMemoryOfParts(t *testing.T) {
	l := []jump.Part{load(4), load(4), plain(insn.Return(7)), here(1), goes(1), load(8), load(8)}
	was := slices.Clone(l)
	for n := range len(l) {
		got := Peep(l[:n])
		want := slices.Clone(got)
		other := Peep(l[:n])
		clear(other[:cap(other)])
		if !slices.Equal(l, was) || !slices.Equal(got, want) {
			t.Errorf("%d: %+v, %+v", n, l, got)
		}
		least(l[:n])
		if !slices.Equal(l, was) {
			t.Errorf("%d: %+v", n, l)
		}
	}
}

// R8: what is answered doesn't depend on what was asked ahead, nor on who else asks meanwhile; what Difference answers doesn't, either, on what else its filter runs.
func TestAtOnce(t *testing.T) {
	r := rand.New(rand.NewSource(8))
	var all sync.WaitGroup
	for range 30 {
		p := chancePolicy(r)
		f, edges := filter(t, p), Edges(p)
		want := f.Insns()
		for range 8 {
			all.Go(func() {
				got, e := Insns(p, table)
				_, is := Difference(p, f, edges)
				if e != api.OK || is || !slices.Equal(got, want) || !slices.Equal(Edges(p), edges) {
					t.Errorf("%s: answers differ", p.Text(table))
				}
			})
		}
	}
	all.Wait()
}

// P1: none panics, and each ends, whatever it is given.
func TestAnything(t *testing.T) {
	r := rand.New(rand.NewSource(1))
	for range 5000 {
		p := policy.Policy{Name: oneOf(r, "", "p", strings.Repeat("p", 99)), Default: record.Action(r.Uint32())}
		for range r.Intn(9) {
			x := policy.Rule{Number: r.Uint32() >> r.Intn(32), Action: record.Action(r.Uint32())}
			for range r.Intn(9) {
				x.Conds = append(x.Conds, policy.Cond{Arg: int(r.Uint64()) >> r.Intn(64), Op: policy.Op(r.Intn(256)), Mask: r.Uint64(), Value: r.Uint64()})
			}
			p.Rules = append(p.Rules, x)
		}
		calls := oneOf(r, nil, &names.Table{}, table)
		wantError(t, "by chance", p, calls, p.Check(calls))
		f := loaded(t, made(t, lower.Parts(ir.Of(p)))...)
		if x, is := Difference(p, f, Edges(p)); is {
			t.Fatalf("%+v: differs at %+v", p, x)
		}
		Difference(p, nil, Edges(p))
		l := make([]jump.Part, r.Intn(20))
		for i := range l {
			l[i] = jump.Part{Kind: jump.Kind(r.Intn(7)), To: jump.Name(r.Intn(9) - 1), Else: jump.Name(r.Intn(9) - 1), Insn: insn.Insn{Code: uint16(r.Uint32()) >> r.Intn(16), K: r.Uint32() % 8}}
		}
		if got := Peep(l); !slices.Equal(got, toldPeep(l)) {
			t.Fatalf("%+v: %+v", l, got)
		}
	}
}

// P1: so it is with very many things.
func TestVeryMany(t *testing.T) {
	conds := slices.Repeat([]policy.Cond{{Arg: 5, Op: policy.Eq, Value: 7}}, 100000)
	p := one(conds...)
	p.Rules = append(p.Rules, slices.Repeat([]policy.Rule{{Number: 3, Action: record.Kill}}, 100000)...)
	wantError(t, "very many", p, table, api.ErrMany)
	if n := len(Edges(p)); n != 2+1+5*100000+100000 {
		t.Errorf("%d edges", n)
	}
	if _, is := Difference(p, filter(t, one()), []record.Record{call(2, 0, 0, 0, 0, 0, 7), call(3)}); !is {
		t.Error("no difference")
	}
	if n := len(Peep(slices.Repeat([]jump.Part{load(4), goes(1)}, 100000))); n != 100001 {
		t.Errorf("%d parts", n)
	}
}
