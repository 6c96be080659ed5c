package ir

import (
	"fmt"
	"math"
	"math/rand"
	"slices"
	"sync"
	"testing"

	"pinfold/insn"
	"pinfold/mean"
	"pinfold/names"
	"pinfold/parse"
	"pinfold/policy"
	"pinfold/record"
	"pinfold/vm"
)

// ranked is actions, those of the strongest kind first; of one kind several, whose low bits would tell another order.
var ranked = [][]record.Action{
	{0x80000000, 0x8000ffff, 0, 7, 0x00040000, 0x00060000, 0x7ffd0000, 0xffffffff},
	{0x0005000d, 0x00050000, 0x00050fff, 0x0005ffff},
	{0x7ffc0000, 0x7ffc0001, 0x7ffcffff},
	{0x7fff0000, 0x7fff0001, 0x7fffffff},
}

// turns is numbers at which a condition turns, or might seem to.
var turns = []uint64{0, 1, 2, 1<<31 - 1, 1 << 31, 1<<32 - 1, 1 << 32, 1<<63 - 1, 1 << 63, math.MaxUint64 - 1, math.MaxUint64}

// call is a call of a number, with arguments.
func call(number uint32, args ...uint64) record.Record {
	r := record.Record{Number: number, Arch: record.Arch}
	copy(r.Args[:], args)
	return r
}

// foreign is a call of another machine.
func foreign(r record.Record, arch uint32) record.Record {
	r.Arch = arch
	return r
}

// rule is a rule of call 2.
func rule(a record.Action, conds ...policy.Cond) policy.Rule {
	return policy.Rule{Number: 2, Action: a, Conds: conds}
}

// listed is a policy of rules.
func listed(l ...policy.Rule) policy.Policy {
	return policy.Policy{Default: 0x00050123, Rules: l}
}

// is is the condition that argument 0 is a number.
func is(n int) policy.Cond { return policy.Cond{Op: policy.Eq, Value: uint64(n)} }

// parsed is the policy of a text.
func parsed(t *testing.T, s string) policy.Policy {
	t.Helper()
	p, w := parse.New().Parse(s)
	if w.Err != 0 {
		t.Fatalf("%q: %+v", s, w)
	}
	return p
}

// wantCases wants the cases of a policy to be some, and its default.
func wantCases(t *testing.T, p policy.Policy, l ...Case) {
	t.Helper()
	want := Plan{Cases: l, Default: p.Default}
	if got := Of(p); told(got) != told(want) {
		t.Errorf("Of %+v:\n%s, want\n%s", p, told(got), told(want))
	}
}

// wantBranches wants the branches of call 2 to be some.
func wantBranches(t *testing.T, rules []policy.Rule, l ...Branch) {
	t.Helper()
	wantCases(t, listed(rules...), Case{Number: 2, Branches: l})
}

// wantConds wants a rule with conditions to have a branch with some of them, told by where they stand.
func wantConds(t *testing.T, conds []policy.Cond, at ...int) {
	t.Helper()
	b := Branch{Action: record.Log}
	for _, i := range at {
		b.Conds = append(b.Conds, conds[i])
	}
	wantBranches(t, []policy.Rule{rule(record.Log, conds...)}, b)
}

// wantNone wants a rule with conditions to have no branch.
func wantNone(t *testing.T, conds ...policy.Cond) {
	t.Helper()
	wantBranches(t, []policy.Rule{rule(record.Log, conds...)})
}

func wantDecide(t *testing.T, p Plan, r record.Record, want record.Action) {
	t.Helper()
	if got := p.Decide(r); got != want {
		t.Errorf("Decide of %s, %+v: %#x, want %#x", told(p), r, uint32(got), uint32(want))
	}
}

func wantSize(t *testing.T, p Plan, cases, all, conds int) {
	t.Helper()
	if a, b, c := p.Size(); a != cases || b != all || c != conds {
		t.Errorf("Size of %s: %d, %d, %d, want %d, %d, %d", told(p), a, b, c, cases, all, conds)
	}
}

// The document's example: two rules of open, a case of two branches.
func TestExample(t *testing.T) {
	p := parsed(t, "policy p\ndefault kill\ncall open allow\ncall open errno 13 if arg1 & 2 == 2\n")
	c := policy.Cond{Arg: 1, Op: policy.Masked, Mask: 2, Value: 2}
	wantCases(t, p, Case{names.Open, []Branch{{[]policy.Cond{c}, record.Fail(13)}, {nil, record.Allow}}})
	plan := Of(p)
	wantSize(t, plan, 1, 2, 1)
	wantDecide(t, plan, call(names.Open, 0, 3), record.Fail(13))
	wantDecide(t, plan, call(names.Open, 3, 1), record.Allow)
	wantDecide(t, plan, call(names.Read, 0, 3), record.Kill)
}

// each goes over all lists of n of a few.
func each[T any](n int, few []T, do func(l []T)) {
	if n == 0 {
		do(nil)
		return
	}
	each(n-1, few, func(ahead []T) {
		for _, x := range few {
			do(append(slices.Clone(ahead), x))
		}
	})
}

// P12.1: a case for each number that rules have, each once, rising, in whatever order the rules stand; of each just its own rules.
func TestCases(t *testing.T) {
	numbers := []uint32{0, 1, 2, 446, 1<<31 - 1, 1 << 31, math.MaxUint32}
	for n := range 5 {
		each(n, numbers, func(l []uint32) {
			p := policy.Policy{Default: record.Log}
			for i, number := range l {
				p.Rules = append(p.Rules, policy.Rule{Number: number, Action: record.Allow, Conds: []policy.Cond{is(i)}})
			}
			var want []Case
			for _, number := range numbers {
				c := Case{Number: number}
				for i := range l {
					if l[i] == number {
						c.Branches = append(c.Branches, Branch{p.Rules[i].Conds, record.Allow})
					}
				}
				if slices.Contains(l, number) {
					want = append(want, c)
				}
			}
			wantCases(t, p, want...)
		})
	}
}

// P12.1: a number has its case even if none of its rules has a branch.
func TestCaseWithoutBranches(t *testing.T) {
	none := []policy.Cond{{Op: policy.Lt}}
	p := listed(rule(record.Allow, none...), policy.Rule{Number: 1, Conds: none}, rule(record.Kill, none...), policy.Rule{Number: 3})
	wantCases(t, p, Case{Number: 1}, Case{Number: 2}, Case{3, []Branch{{}}})
	wantSize(t, Of(p), 3, 1, 0)
	wantDecide(t, Of(p), call(2), p.Default)
	wantDecide(t, Of(p), call(3), 0)
}

// P12.1: the default is the policy's, as it is; of no rules it is all; names, paths, ports don't count.
func TestDefault(t *testing.T) {
	for _, l := range ranked {
		for _, a := range l {
			wantCases(t, policy.Policy{Default: a})
			wantCases(t, policy.Policy{Default: a, Rules: []policy.Rule{}, Name: "p", Handled: 7, Paths: []policy.Beneath{{Path: "/", Rights: 1}}, Ports: []policy.Port{{Number: 2}}})
			wantCases(t, policy.Policy{Default: a, Rules: []policy.Rule{rule(record.Log)}}, Case{2, []Branch{{nil, record.Log}}})
			wantDecide(t, Of(policy.Policy{Default: a}), call(2), a)
			wantSize(t, Of(policy.Policy{Default: a}), 0, 0, 0)
		}
	}
}

// byKind is branches, those of the stronger kinds first, those of one kind in their order.
func byKind(l []Branch) []Branch {
	var sorted []Branch
	for rank := range 4 {
		for _, b := range l {
			if toldRank(b.Action) == rank {
				sorted = append(sorted, b)
			}
		}
	}
	return sorted
}

// P12.1: of one number's rules the stronger kinds come first, those of one kind stay in their order, whatever their low bits; each action stays as it is.
func TestOrder(t *testing.T) {
	var actions []record.Action
	for _, l := range ranked {
		actions = append(actions, l...)
	}
	for n := range 4 {
		each(n, actions, func(l []record.Action) {
			var rules []policy.Rule
			var want []Branch
			for i, a := range l {
				rules = append(rules, rule(a, is(i)))
				want = append(want, Branch{rules[i].Conds, a})
			}
			if n > 0 {
				wantBranches(t, rules, byKind(want)...)
			}
		})
	}
}

// P12.1: so are they if there are very many, among rules of other numbers.
func TestOrderOfMany(t *testing.T) {
	r := rand.New(rand.NewSource(1))
	for _, n := range []int{13, 64, 1000} {
		var rules []policy.Rule
		var want []Branch
		for i := range n {
			x := rule(oneOf(r, ranked[r.Intn(4)]...), is(i))
			rules = append(rules, x, policy.Rule{Number: uint32(3 * r.Intn(2)), Action: record.Kill})
			want = append(want, Branch{x.Conds, x.Action})
		}
		first := []Branch{{nil, record.Kill}}
		wantCases(t, listed(rules...), Case{0, first}, Case{2, byKind(want)}, Case{3, first})
	}
}

// P12.1: each condition comes once, where it comes first; those that differ in anything are others.
func TestCondsOnce(t *testing.T) {
	a := policy.Cond{Arg: 1, Op: policy.Masked, Mask: 6, Value: 2}
	l := []policy.Cond{a, a, a, a, a}
	l[1].Arg, l[2].Op, l[3].Mask, l[4].Value = 2, policy.Ne, 7, 4
	wantConds(t, nil)
	wantConds(t, l, 0, 1, 2, 3, 4)
	wantConds(t, []policy.Cond{a, a}, 0)
	wantConds(t, []policy.Cond{l[3], a, l[3], a, a, l[3]}, 0, 1)
	for n := range 5 {
		each(n, []int{0, 1, 2, 3, 4}, func(which []int) {
			var conds []policy.Cond
			var at []int
			for i, w := range which {
				conds = append(conds, l[w])
				if !slices.Contains(which[:i], w) {
					at = append(at, i)
				}
			}
			wantConds(t, conds, at...)
		})
	}
}

// P12.1: one and the same condition in two rules, or twice the same rule, stays in each.
func TestCondsOfEachRule(t *testing.T) {
	a, b := is(1), policy.Cond{Arg: 2, Op: policy.Ne, Value: 3}
	l := []policy.Rule{rule(record.Log, a, b), rule(record.Log, b, a), rule(record.Log, a, b), rule(record.Allow, a), rule(record.Allow, is(2))}
	var want []Branch
	for _, x := range l {
		want = append(want, Branch{x.Conds, x.Action})
	}
	wantBranches(t, l, want...)
}

// P12.1: conditions that hold of every number go, of an argument from 0 to 5; one that holds of none leaves no branch, of whatever argument; all others stay, of all ways and those that there aren't.
func TestEachCond(t *testing.T) {
	other := policy.Cond{Arg: 4, Op: policy.Masked, Mask: 6, Value: 2}
	for op := range 256 {
		for _, value := range turns {
			for _, mask := range []uint64{0, 1, math.MaxUint64} {
				for _, arg := range []int{0, 1, 2, 3, 4, 5, 6, 7, -1, math.MaxInt, math.MinInt, 1 << 32} {
					c := policy.Cond{Arg: arg, Op: policy.Op(op), Mask: mask, Value: value}
					there := 0 <= arg && arg <= 5
					switch {
					case op == 3 && value == 0, op == 5 && value == math.MaxUint64:
						wantNone(t, c)
						wantNone(t, other, c)
						wantNone(t, c, other)
					case there && (op == 6 && value == 0 || op == 4 && value == math.MaxUint64):
						wantConds(t, []policy.Cond{c})
						wantConds(t, []policy.Cond{c, other, c}, 1)
					default:
						wantConds(t, []policy.Cond{c}, 0)
						wantConds(t, []policy.Cond{other, c}, 0, 1)
					}
				}
			}
		}
	}
}

// P12.1: two Eq of one argument with other values leave no branch, wherever they stand; with the same value they are one; of other arguments, or in other ways, they stay.
func TestEqual(t *testing.T) {
	for _, arg := range []int{0, 1, 5, 6, -1, math.MaxInt} {
		for _, a := range turns {
			for _, b := range turns {
				x, y := policy.Cond{Arg: arg, Op: policy.Eq, Value: a}, policy.Cond{Arg: arg, Op: policy.Eq, Value: b}
				if a == b {
					wantConds(t, []policy.Cond{x, y}, 0)
					continue
				}
				wantNone(t, x, y)
				wantNone(t, x, x, y)
				wantNone(t, x, is(3), policy.Cond{Arg: 2, Op: policy.Ge}, y, x)
				other := y
				other.Arg = 3
				wantConds(t, []policy.Cond{x, other}, 0, 1)
				for _, op := range []policy.Op{0, policy.Ne, policy.Masked, 8} {
					other := policy.Cond{Arg: arg, Op: op, Mask: math.MaxUint64, Value: b}
					wantConds(t, []policy.Cond{x, other}, 0, 1)
					wantConds(t, []policy.Cond{other, x}, 0, 1)
					wantConds(t, []policy.Cond{other, {Arg: arg, Op: op, Mask: math.MaxUint64, Value: a}}, 0, 1)
				}
			}
		}
	}
	same := []policy.Cond{is(7), {Op: policy.Eq, Mask: 1, Value: 7}}
	wantConds(t, same, 0, 1)
	wantBranches(t, []policy.Rule{rule(record.Log, is(1)), rule(record.Log, is(2))}, Branch{[]policy.Cond{is(1)}, record.Log}, Branch{[]policy.Cond{is(2)}, record.Log})
}

// P12.1: behind the first branch without conditions, be it that all of them went, there is none of that number.
func TestBehindTheFirst(t *testing.T) {
	all, none := policy.Cond{Arg: 5, Op: policy.Le, Value: math.MaxUint64}, policy.Cond{Arg: 5, Op: policy.Gt, Value: math.MaxUint64}
	one := []policy.Cond{is(1)}
	for _, conds := range [][]policy.Cond{nil, {}, {all}, {all, {Op: policy.Ge}, all}} {
		plain := rule(record.Fail(5), conds...)
		wantBranches(t, []policy.Rule{plain}, Branch{nil, record.Fail(5)})
		wantBranches(t, []policy.Rule{plain, plain, rule(record.Allow), rule(record.Log, is(1)), rule(record.Fail(6), is(2))}, Branch{nil, record.Fail(5)})
		wantBranches(t, []policy.Rule{rule(record.Allow), rule(record.Fail(4), is(1)), plain, rule(record.Kill, is(1)), rule(record.Fail(6))},
			Branch{one, record.Kill}, Branch{one, record.Fail(4)}, Branch{nil, record.Fail(5)})
	}
	wantBranches(t, []policy.Rule{rule(record.Kill, none), rule(record.Log, is(1)), rule(record.Log, all, none), rule(record.Allow)},
		Branch{one, record.Log}, Branch{nil, record.Allow})
	l := []policy.Rule{rule(record.Kill), {Number: 3, Conds: one}, {Number: 1}, {Number: 1, Action: record.Log}, {Number: 3}, {Number: 3, Conds: one}}
	wantCases(t, listed(l...), Case{1, []Branch{{}}}, Case{2, []Branch{{nil, record.Kill}}}, Case{3, []Branch{{one, 0}, {}}})
}

// P12.2: of a foreign machine a plan says Kill, whatever else it has.
func TestForeign(t *testing.T) {
	for _, p := range []Plan{{}, {Default: record.Allow}, Of(listed(rule(record.Allow))), {Cases: []Case{{Number: 2, Branches: []Branch{{nil, 7}}}}}} {
		for bit := range 32 {
			wantDecide(t, p, foreign(call(2), record.Arch^1<<bit), record.Kill)
		}
		wantDecide(t, p, foreign(call(2), 0), record.Kill)
	}
	wantDecide(t, Of(listed(rule(record.Allow))), call(2), record.Allow)
}

// P12.2: each number's case is found, wherever it stands among however many; other numbers have the default.
func TestDecideNumber(t *testing.T) {
	for n := range 40 {
		p := Plan{Default: record.Log}
		for i := range n {
			p.Cases = append(p.Cases, Case{uint32(10 + 3*i), []Branch{{nil, record.Fail(1) + record.Action(i)}}})
		}
		for number := range uint32(150) {
			want := record.Log
			if i := int(number) - 10; i >= 0 && i%3 == 0 && i/3 < n {
				want = record.Fail(1) + record.Action(i/3)
			}
			wantDecide(t, p, call(number), want)
		}
	}
	p := Plan{Cases: []Case{{0, []Branch{{nil, 1}}}, {1 << 31, []Branch{{nil, 2}}}, {math.MaxUint32, []Branch{{nil, 3}}}}}
	for number, want := range map[uint32]record.Action{0: 1, 1: 0, 1<<31 - 1: 0, 1 << 31: 2, 1<<31 + 1: 0, math.MaxUint32 - 1: 0, math.MaxUint32: 3} {
		wantDecide(t, p, call(number), want)
	}
}

// P12.2: the first branch counts whose conditions all hold, be it weaker than a later one; where none does, the default does.
func TestDecideBranches(t *testing.T) {
	for n := range 6 {
		for which := range 1 << n {
			p := Plan{Default: record.Log}
			c := Case{Number: 2}
			want := record.Log
			for i := range n {
				b := Branch{Action: ranked[3-i%4][0] + record.Action(i)}
				for j := range 3 {
					b.Conds = append(b.Conds, policy.Cond{Arg: j, Op: policy.Ne, Value: 9})
				}
				if which>>i&1 == 0 {
					b.Conds[i%3].Value = 7
				} else if want == record.Log {
					want = b.Action
				}
				c.Branches = append(c.Branches, b)
			}
			p.Cases = []Case{{Number: 1, Branches: []Branch{{nil, 5}}}, c, {Number: 3, Branches: []Branch{{nil, 5}}}}
			wantDecide(t, p, call(2, 7, 7, 7), want)
		}
	}
	p := Plan{Default: record.Log, Cases: []Case{{1, nil}, {2, []Branch{{nil, record.Allow}, {nil, record.Kill}}}}}
	wantDecide(t, p, call(1), record.Log)
	wantDecide(t, p, call(2), record.Allow)
}

// P12.2: a branch's conditions are asked of the call's own arguments, all of them; conditions that never hold leave it.
func TestDecideConds(t *testing.T) {
	for n := range 9 {
		for which := range 1 << n {
			b := Branch{Action: record.Allow}
			for i := range n {
				b.Conds = append(b.Conds, policy.Cond{Arg: i % 6, Op: policy.Eq, Value: uint64(100 + i%6 + which>>i&1)})
			}
			p := Plan{Cases: []Case{{2, []Branch{b, {nil, record.Fail(7)}}}}, Default: record.Kill}
			want := record.Fail(7)
			if which == 0 {
				want = record.Allow
			}
			wantDecide(t, p, record.Record{Number: 2, Arch: record.Arch, At: 77, Args: [6]uint64{100, 101, 102, 103, 104, 105}}, want)
		}
	}
	for _, c := range []policy.Cond{{Arg: 6, Op: policy.Ge}, {Arg: -1, Op: policy.Ge}, {Op: 0}, {Op: 8}, {Op: policy.Lt}} {
		p := Plan{Cases: []Case{{2, []Branch{{[]policy.Cond{c}, record.Kill}, {nil, record.Allow}}}}}
		wantDecide(t, p, call(2), record.Allow)
	}
}

// P12.2: Size counts a plan's own cases, branches and conditions, whatever they are.
func TestSize(t *testing.T) {
	conds := make([]policy.Cond, 9)
	wantSize(t, Plan{}, 0, 0, 0)
	wantSize(t, Plan{Cases: make([]Case, 3)}, 3, 0, 0)
	wantSize(t, Plan{Cases: []Case{{2, make([]Branch, 2)}, {2, make([]Branch, 3)}}}, 2, 5, 0)
	wantSize(t, Plan{Cases: []Case{{2, []Branch{{conds[:2], 0}, {conds, 0}}}, {1, nil}, {7, []Branch{{conds[:1], 0}, {nil, 0}, {conds[:4], 0}}}}}, 3, 5, 16)
}

// small is few rules, in which each thing that a plan leaves out comes, and calls that tell them from each other.
func small() ([]policy.Rule, []record.Record) {
	a, b := is(1), policy.Cond{Arg: 1, Op: policy.Gt, Value: 4}
	all, none := policy.Cond{Arg: 2, Op: policy.Ge}, policy.Cond{Arg: 2, Op: policy.Lt}
	l := []policy.Rule{
		rule(record.Allow), rule(record.Allow, a), rule(record.Log, b, b), rule(record.Fail(1), a, b), rule(record.Fail(2), all),
		rule(record.Fail(3), all, a), rule(record.Kill, a, none), rule(record.Kill, a, is(2)), rule(record.Kill+1, b), rule(3, is(2), all),
		rule(record.Log, policy.Cond{Arg: 6, Op: policy.Ge}), {Number: 3, Action: record.Log, Conds: []policy.Cond{a}}, {Number: 1, Action: record.Fail(4)},
	}
	var calls []record.Record
	for number := range uint32(5) {
		for n := range uint64(3) {
			calls = append(calls, call(number, n, 4), call(number, n, 5))
		}
	}
	return l, append(calls, foreign(calls[0], 1))
}

// P12.1, P12.2: all policies of up to three of such rules.
func TestAllSmall(t *testing.T) {
	l, calls := small()
	for n := range 4 {
		each(n, l, func(rules []policy.Rule) { hold(t, listed(rules...), calls...) })
	}
}

// P3: a plan says of a call what a filter says that was made of its policy's text by hand.
func TestFilterSaysTheSame(t *testing.T) {
	p := parsed(t, "policy p\ndefault kill\ncall open allow if arg0 >= 0\ncall open errno 13 if arg1 & 2 == 2 and arg1 & 2 == 2\ncall open kill if arg0 < 0\n")
	f, w := vm.Load([]insn.Insn{
		insn.Load(record.AtArch), insn.If(insn.Jeq, record.Arch, 1, 0), insn.Return(uint32(record.Kill)),
		insn.Load(record.AtNumber), insn.If(insn.Jeq, 2, 0, 3),
		insn.Load(record.Half(1, false)), insn.If(insn.Jset, 2, 2, 0),
		insn.Return(uint32(record.Allow)), insn.Return(uint32(record.Kill)), insn.Return(uint32(record.Fail(13))),
	})
	if w.Err != 0 {
		t.Fatal(w)
	}
	plan := Of(p)
	wantSize(t, plan, 1, 2, 1)
	for _, number := range []uint32{0, 2, 3} {
		for _, a := range turns {
			for _, b := range turns {
				for _, arch := range []uint32{record.Arch, 0, record.Arch + 1} {
					r := foreign(call(number, a, b), arch)
					said, _ := f.Run(r)
					wantDecide(t, plan, r, said)
				}
			}
		}
	}
}

// R6: an answer is new memory, of which no two lists share any, and what is handed in isn't changed, spare room included.
func TestMemory(t *testing.T) {
	conds := []policy.Cond{is(1), is(1), {Arg: 2, Op: policy.Ge}, {Arg: 3, Op: policy.Ne}, {Arg: 77}, {Arg: 78}}
	rules := []policy.Rule{rule(record.Allow, conds[:4]...), rule(record.Log, conds[:1]...), {Number: 1, Action: record.Kill, Conds: conds[3:4]}, rule(record.Log, conds[:2]...), {Number: 77}, {Number: 78}}
	p := policy.Policy{Default: record.Log, Rules: rules[:4]}
	was, wasConds := fmt.Sprintf("%#v", rules), fmt.Sprintf("%#v", conds)
	one, other := Of(p), Of(p)
	want := told(other)
	if wantSize(t, one, 2, 4, 5); t.Failed() {
		return
	}
	for i, c := range one.Cases {
		for _, b := range c.Branches {
			clear(b.Conds[:cap(b.Conds)])
		}
		clear(c.Branches[:cap(c.Branches)])
		if i == 0 && told(Plan{Cases: one.Cases[1:]}) != told(Plan{Cases: other.Cases[1:]}) {
			t.Error("two cases share memory")
		}
	}
	clear(one.Cases[:cap(one.Cases)])
	if told(other) != want || told(Of(p)) != want {
		t.Error("two answers share memory")
	}
	if fmt.Sprintf("%#v", rules) != was || fmt.Sprintf("%#v", conds) != wasConds {
		t.Error("what was handed in was changed")
	}
	clear(conds)
	clear(rules)
	if told(other) != want {
		t.Error("what was handed in was kept")
	}
}

// R6: no list of an answer has room in which another one stands.
func TestListsApart(t *testing.T) {
	l, _ := small()
	l = append(l, rule(record.Kill, l[8].Conds...), rule(record.Log, is(5), policy.Cond{Arg: 4, Op: policy.Ne}, is(5)))
	plan := Of(listed(l...))
	want := told(plan)
	for _, c := range plan.Cases {
		for _, b := range c.Branches {
			_ = append(b.Conds, policy.Cond{Arg: 99})
			_ = append(b.Conds, make([]policy.Cond, 9)...)
		}
		_ = append(c.Branches, Branch{Action: 99})
	}
	if told(plan) != want {
		t.Error("two lists share room")
	}
	b := plan.Cases[1].Branches
	if len(b) < 2 || len(b[0].Conds) == 0 || &b[0].Conds[0] == &b[1].Conds[0] {
		t.Fatal("two branches share conditions")
	}
}

// R6, R8: Decide and Size change nothing, spare room included.
func TestDecideChangesNothing(t *testing.T) {
	l, calls := small()
	plan := Of(listed(l...))
	plan.Cases = append(plan.Cases, Case{Number: 77}, Case{Number: 1})[:3]
	was := fmt.Sprintf("%#v", plan.Cases[:5])
	for _, r := range calls {
		plan.Decide(r)
		plan.Size()
	}
	if fmt.Sprintf("%#v", plan.Cases[:5]) != was {
		t.Error("a plan was changed")
	}
}

// R8: what is answered doesn't depend on what was asked ahead, nor on who else asks meanwhile.
func TestAtOnce(t *testing.T) {
	l, calls := small()
	p := listed(l...)
	plan := Of(p)
	want := told(plan)
	var all sync.WaitGroup
	for range 16 {
		all.Go(func() {
			for range 20 {
				if got := told(Of(p)); got != want {
					t.Errorf("Of: %s, want %s", got, want)
				}
				for _, r := range calls {
					wantDecide(t, plan, r, mean.Says(p, r))
				}
			}
		})
	}
	all.Wait()
}

// P1: none panics, and each ends, whatever it is given.
func TestAnything(t *testing.T) {
	r := rand.New(rand.NewSource(1))
	for range 20000 {
		c := policy.Cond{Arg: int(r.Uint64()) >> r.Intn(64), Op: policy.Op(r.Intn(256)), Mask: r.Uint64(), Value: r.Uint64()}
		x := policy.Rule{Number: r.Uint32() >> r.Intn(32), Action: record.Action(r.Uint32()), Conds: []policy.Cond{c}}
		y := record.Record{Number: x.Number, Arch: record.Arch, Args: [6]uint64{r.Uint64(), r.Uint64()}}
		hold(t, policy.Policy{Default: record.Action(r.Uint32()), Rules: []policy.Rule{x, {}}}, y, record.Record{})
		odd := Plan{Cases: []Case{{Number: r.Uint32()}, {Number: x.Number, Branches: []Branch{{}}}, {Number: r.Uint32()}, {Number: r.Uint32()}}}
		odd.Decide(y)
		wantSize(t, odd, 4, 1, 0)
	}
	conds := make([]policy.Cond, 200000)
	for i := range conds {
		conds[i] = policy.Cond{Arg: i / 3, Op: policy.Eq, Value: 9}
	}
	rules := make([]policy.Rule, 200000)
	for i := range rules {
		rules[i] = policy.Rule{Number: uint32(i*7) % 100000, Action: record.Action(i), Conds: conds[:1]}
	}
	rules[77] = policy.Rule{Number: 300000, Action: record.Log, Conds: conds}
	plan := Of(policy.Policy{Default: record.Allow, Rules: rules})
	wantSize(t, plan, 100001, 200000, 199999+66667)
	wantDecide(t, plan, call(7, 9), 1)
	wantDecide(t, plan, call(539, 9), 100077)
	wantDecide(t, plan, call(7), record.Allow)
	wantDecide(t, plan, call(300000, 9, 9, 9, 9, 9, 9), record.Allow)
}
