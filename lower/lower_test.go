package lower

import (
	"fmt"
	"math"
	"math/rand"
	"slices"
	"sync"
	"testing"

	"pinfold/api"
	"pinfold/insn"
	"pinfold/ir"
	"pinfold/jump"
	"pinfold/mean"
	"pinfold/names"
	"pinfold/parse"
	"pinfold/policy"
	"pinfold/record"
)

// call is a call of a number, with arguments.
func call(number uint32, args ...uint64) record.Record {
	r := record.Record{Number: number, Arch: record.Arch}
	copy(r.Args[:], args)
	return r
}

// foreign is a call of another machine.
func foreign(r record.Record, arch uint32) record.Record {
	r.Arch = arch
	return r
}

// one is a plan of call 2 with one branch of conditions.
func one(conds ...policy.Cond) ir.Plan {
	return ir.Plan{Cases: []ir.Case{{Number: 2, Branches: []ir.Branch{{Conds: conds, Action: record.Fail(13)}}}}, Default: record.Allow}
}

// is is the condition that argument 0 is a number.
func is(n int) policy.Cond { return policy.Cond{Op: policy.Eq, Value: uint64(n)} }

// asked is a call 2 of which an argument is a number, all others being another one.
func asked(arg int, n uint64) record.Record {
	r := call(2)
	for i := range r.Args {
		r.Args[i] = ^n
	}
	if 0 <= arg && arg < len(r.Args) {
		r.Args[arg] = n
	}
	r.At = ^n
	return r
}

// The document's examples: of a plan without cases a filter that looks at Arch alone (and has, by chapter 15's, five instructions).
func TestExample(t *testing.T) {
	for _, a := range actions {
		for _, p := range []ir.Plan{{Default: a}, {Default: a, Cases: []ir.Case{}}, ir.Of(policy.Policy{Name: "p", Default: a})} {
			l, e := jump.Make(Parts(p))
			if places, all := loads(l); e != api.OK || !slices.Equal(places, []uint32{record.AtArch}) || all != 1 {
				t.Errorf("looks at %v, %d loads, %d", places, all, e)
			}
			tidy, e := jump.Make(jump.Tidy(Parts(p)))
			if len(l) != 5 || len(tidy) != 5 || e != api.OK {
				t.Errorf("%d instructions, tidied %d", len(l), len(tidy))
			}
			wantPlan(t, p, call(0), call(2, 1, 2, 3), call(math.MaxUint32), foreign(call(2), 0))
		}
	}
}

// P14.1: of a foreign machine each filter says Kill, whatever else the call and the plan have, and looks at nothing further.
func TestForeign(t *testing.T) {
	plans := []ir.Plan{{}, {Default: record.Allow}, one(), one(is(0)), {Cases: []ir.Case{{Number: 1}, {Number: 2, Branches: []ir.Branch{{Action: 7}}}}, Default: record.Log}}
	for _, p := range plans {
		f := lowered(t, p)
		archs := []uint32{0, 1, math.MaxUint32, record.Arch - 1, record.Arch + 1, 0x4000003e}
		for bit := range 32 {
			archs = append(archs, record.Arch^1<<bit, 1<<bit)
		}
		for _, arch := range archs {
			for _, number := range []uint32{0, 1, 2, 3, record.Arch} {
				r := foreign(call(number), arch)
				if a, _ := f.Run(r); a != record.Kill || !slices.Equal(looks(f, r), []uint32{4}) {
					t.Fatalf("%#x: %#x, looked at %v", arch, uint32(a), looks(f, r))
				}
			}
		}
		wantPlan(t, p, call(0), call(1), call(2), call(3))
	}
}

// apart is a plan of so many calls, each of which says something else.
func apart(n int) ir.Plan {
	p := ir.Plan{Default: record.Log}
	for i := range n {
		p.Cases = append(p.Cases, ir.Case{Number: uint32(10 + 3*i), Branches: []ir.Branch{{Action: record.Fail(api.Errno(i + 1))}}})
	}
	return p
}

// P14.1: each number's case is found, wherever it stands among however many; other numbers, those beside them too, have the default.
func TestNumbers(t *testing.T) {
	for n := range 70 {
		var l []record.Record
		for number := range uint32(230) {
			l = append(l, call(number))
		}
		wantPlan(t, apart(n), append(l, call(math.MaxUint32), call(1<<31), call(1<<31+10))...)
	}
	edges := []uint32{0, 1, 1<<31 - 1, 1 << 31, 1<<31 + 1, math.MaxUint32 - 1, math.MaxUint32}
	for which := range 1 << len(edges) {
		p := ir.Plan{Default: record.Log}
		var l []record.Record
		for i, number := range edges {
			if which>>i&1 == 1 {
				p.Cases = append(p.Cases, ir.Case{Number: number, Branches: []ir.Branch{{Action: record.Fail(api.Errno(i + 1))}}})
			}
			l = append(l, call(number), call(number+1), call(number-1))
		}
		wantPlan(t, p, l...)
	}
}

// P14.1: a call's number is found by halves: of 64 in few steps.
func TestNumbersByHalves(t *testing.T) {
	f := lowered(t, apart(64))
	for number := range uint32(230) {
		if _, steps := f.Run(call(number)); steps > 19 {
			t.Errorf("%d: %d steps", number, steps)
		}
	}
}

// P14.1: a case without branches says the default, and so does one whose branches never hold.
func TestCaseWithoutBranches(t *testing.T) {
	none := ir.Branch{Conds: []policy.Cond{{Op: policy.Lt}}, Action: record.Kill}
	for n := range 5 {
		for at := range n {
			p := apart(n)
			p.Cases[at].Branches = nil
			wantPlan(t, p, call(9), call(10), call(11), call(12), call(13), call(16), call(19), call(22), call(25))
			p.Cases[at].Branches = []ir.Branch{none, none}
			wantPlan(t, p, call(9), call(10), call(11), call(12), call(13), call(16), call(19), call(22), call(25))
		}
	}
}

// P14.1: actions and the default are said as they are, whatever their bits.
func TestActions(t *testing.T) {
	for _, a := range actions {
		for _, b := range actions {
			p := one(is(1))
			p.Default, p.Cases[0].Branches[0].Action = a, b
			wantPlan(t, p, call(1, 1), call(2, 1), call(2, 2))
		}
	}
}

// P14.1: each condition of one number, at all numbers at which it turns, of each argument, is asked of that argument, its high half first, the low one just where it is wanted.
func TestComparisons(t *testing.T) {
	values := whole()
	for op := policy.Eq; op <= policy.Ge; op++ {
		for _, value := range values {
			for arg := range 6 {
				c := policy.Cond{Arg: arg, Op: op, Value: value}
				wantAsked(t, c, append(values, value-1, value+1)...)
			}
		}
	}
}

// wantAsked wants a plan of one condition to say what it should, and to look at what it should, of calls with such an argument.
func wantAsked(t *testing.T, c policy.Cond, l ...uint64) {
	t.Helper()
	p := one(c)
	f := lowered(t, p)
	for _, n := range l {
		r := asked(c.Arg, n)
		want := record.Allow
		if toldHolds(c, n) {
			want = record.Fail(13)
		}
		if got, _ := f.Run(r); got != want || p.Decide(r) != want {
			t.Fatalf("%+v of %#x: %#x, want %#x", c, n, uint32(got), uint32(want))
		}
		if got, want := looks(f, r), toldLooks(c, n); !slices.Equal(got, want) {
			t.Fatalf("%+v of %#x: looked at %v, want %v", c, n, got, want)
		}
	}
}

// P14.1: so is each masked one, of masks with nothing in either half, with one bit and with all.
func TestMasked(t *testing.T) {
	masks := []uint64{0, 1, 2, 1 << 31, 1 << 32, 1 << 63, 1<<32 | 1, 1<<63 | 1<<31, 0xf0f0f0f0f0f0f0f0, math.MaxUint32, math.MaxUint32 << 32, math.MaxUint64}
	for _, mask := range masks {
		for _, value := range append(whole(), 0xf0f0f0f0f0f0f0f0, 0x1010101010101010) {
			value &= mask
			l := []uint64{value, ^value, value ^ mask, value &^ mask, value | ^mask, mask, ^mask, 0, math.MaxUint64}
			for bit := range 64 {
				l = append(l, value^1<<bit, (value|^mask)^1<<bit)
			}
			wantAsked(t, policy.Cond{Arg: int(mask % 6), Op: policy.Masked, Mask: mask, Value: value}, l...)
		}
	}
}

// nevers is conditions that hold of no call.
func nevers() []policy.Cond {
	l := []policy.Cond{{Op: policy.Masked, Value: 1}, {Op: policy.Masked, Value: 1 << 63}, {Op: policy.Masked, Mask: 2, Value: 3}, {Op: policy.Masked, Mask: 1 << 32, Value: 1<<33 | 1<<32}, {Op: policy.Masked, Mask: math.MaxUint32, Value: 1 << 32}, {Op: policy.Masked, Mask: math.MaxUint32 << 32, Value: 1}}
	for op := range 256 {
		if op < 1 || op > 7 {
			l = append(l, policy.Cond{Op: policy.Op(op)}, policy.Cond{Arg: 5, Op: policy.Op(op), Mask: math.MaxUint64, Value: 3})
		}
	}
	for _, arg := range []int{6, 7, -1, -2, math.MaxInt, math.MinInt, 1 << 32, 1<<32 + 5} {
		for op := policy.Eq; op <= policy.Masked; op++ {
			l = append(l, policy.Cond{Arg: arg, Op: op}, policy.Cond{Arg: arg, Op: op, Value: math.MaxUint64})
		}
	}
	return l
}

// P14.1: conditions that may not be, those of arguments or ways that there aren't and masked ones that ask for what the mask takes away, hold of no call, wherever they stand; the branches beside theirs are asked as always.
func TestNever(t *testing.T) {
	for _, c := range nevers() {
		var l []record.Record
		for _, n := range []uint64{c.Value, c.Value & c.Mask, 0, 1, 3, math.MaxUint64} {
			l = append(l, asked(c.Arg, n), call(2, n, n, n, n, n, n))
		}
		all := policy.Cond{Arg: 3, Op: policy.Ge}
		for _, conds := range [][]policy.Cond{{c}, {all, c}, {c, all}, {c, c}} {
			wantPlan(t, one(conds...), l...)
			p := one(conds...)
			b := p.Cases[0].Branches[0]
			p.Cases[0].Branches = []ir.Branch{{Conds: []policy.Cond{is(1)}, Action: 1}, b, {Conds: []policy.Cond{is(3)}, Action: 3}, b}
			wantPlan(t, p, l...)
		}
	}
}

// P14.1: a Mask that isn't Masked's doesn't count.
func TestMaskOfOthers(t *testing.T) {
	for op := policy.Eq; op <= policy.Ge; op++ {
		for _, mask := range []uint64{1, 1 << 32, math.MaxUint64} {
			wantAsked(t, policy.Cond{Arg: 1, Op: op, Mask: mask, Value: 5<<32 | 6}, 0, 6, 5<<32, 5<<32|5, 5<<32|6, 5<<32|7, 4<<32|6, 6<<32|6, math.MaxUint64)
		}
	}
}

// P14.1: conditions that hold of every call, or of none, are asked like all others.
func TestAlways(t *testing.T) {
	values := whole()
	for _, c := range []policy.Cond{{Op: policy.Ge}, {Op: policy.Le, Value: math.MaxUint64}, {Op: policy.Lt}, {Op: policy.Gt, Value: math.MaxUint64}, {Op: policy.Masked}} {
		for arg := range 6 {
			c.Arg = arg
			wantAsked(t, c, values...)
		}
	}
}

// P14.1: the first branch counts whose conditions all hold, be it weaker than a later one; where none does, the default does.
func TestBranches(t *testing.T) {
	for n := range 6 {
		for which := range 1 << n {
			c := ir.Case{Number: 2}
			for i := range n {
				b := ir.Branch{Action: record.Fail(api.Errno(1 + i))}
				for j := range 3 {
					b.Conds = append(b.Conds, policy.Cond{Arg: j, Op: policy.Ne, Value: 9})
				}
				if which>>i&1 == 0 {
					b.Conds[i%3].Value = 7
				}
				c.Branches = append(c.Branches, b)
			}
			p := ir.Plan{Cases: []ir.Case{{Number: 1, Branches: []ir.Branch{{Action: 5}}}, c, {Number: 3, Branches: []ir.Branch{{Action: 6}}}}, Default: record.Log}
			wantPlan(t, p, call(0, 7, 7, 7), call(1, 7, 7, 7), call(2, 7, 7, 7), call(3, 7, 7, 7), call(4, 7, 7, 7))
		}
	}
}

// P14.1: what stands behind a branch without conditions doesn't count.
func TestBehindTheFirst(t *testing.T) {
	for at := range 4 {
		c := ir.Case{Number: 2}
		for i := range 4 {
			c.Branches = append(c.Branches, ir.Branch{Conds: []policy.Cond{is(i)}, Action: record.Fail(api.Errno(1 + i))})
		}
		c.Branches[at].Conds = nil
		p := ir.Plan{Cases: []ir.Case{c}, Default: record.Log}
		wantPlan(t, p, call(2, 0), call(2, 1), call(2, 2), call(2, 3), call(2, 4), call(1), call(3))
	}
}

// P14.1: all of a branch's conditions count, each of its own argument, in whatever way it is asked.
func TestConds(t *testing.T) {
	const n = 100<<32 | 50
	for op := policy.Eq; op <= policy.Masked; op++ {
		for which := range 1 << 6 {
			var conds []policy.Cond
			var args []uint64
			for i := range 6 {
				c := policy.Cond{Arg: i, Op: op, Value: n}
				if op == policy.Masked {
					c.Mask = math.MaxUint64
				}
				conds = append(conds, c)
				good := slices.IndexFunc([]uint64{n, n - 1, n + 1}, func(x uint64) bool { return toldHolds(c, x) == (which>>i&1 == 0) })
				args = append(args, []uint64{n, n - 1, n + 1}[good])
			}
			wantPlan(t, one(conds...), call(2, args...), call(1, args...))
			slices.Reverse(conds)
			wantPlan(t, one(conds...), call(2, args...))
		}
	}
}

// long is a branch of so many conditions, each of which holds of 7s in all arguments, but one at a place (at -1: none).
func long(n, at int) ir.Branch {
	b := ir.Branch{Action: record.Fail(13)}
	ways := []policy.Cond{{Op: policy.Eq, Value: 7}, {Op: policy.Ge, Value: 7}, {Op: policy.Masked, Mask: 6, Value: 6}, {Op: policy.Lt, Value: 8}, {Op: policy.Ne, Value: 8}}
	for i := range n {
		c := ways[i%len(ways)]
		c.Arg = i % 6
		if i == at {
			c = policy.Cond{Arg: c.Arg, Op: policy.Gt, Value: 7}
		}
		b.Conds = append(b.Conds, c)
	}
	return b
}

// P14.1: branches so long, and so many, that ways go further than a comparison jumps, are asked likewise.
func TestFar(t *testing.T) {
	seven := call(2, 7, 7, 7, 7, 7, 7)
	for n := 30; n < 60; n++ { // around 253 instructions
		for _, at := range []int{-1, 0, 1, 2, n / 2, n - 1} {
			c := ir.Case{Number: 2, Branches: []ir.Branch{long(n, at), long(n/2, -1)}}
			c.Branches[1].Action = record.Log
			wantPlan(t, ir.Plan{Cases: []ir.Case{c}}, seven, call(2), call(1))
		}
	}
	for n := 1; n < 200; n += 7 {
		for _, first := range []int{0, n / 2, n - 1, n} {
			c := ir.Case{Number: 2}
			for i := range n {
				x := policy.Cond{Arg: i % 6, Op: policy.Gt, Value: 7}
				if i >= first {
					x.Value = 6
				}
				c.Branches = append(c.Branches, ir.Branch{Conds: []policy.Cond{x}, Action: record.Fail(api.Errno(1 + i))})
			}
			other := []ir.Branch{{Action: record.Log}}
			p := ir.Plan{Cases: []ir.Case{{Number: 1, Branches: other}, c, {Number: 3, Branches: other}}}
			wantPlan(t, p, seven, call(0), call(1), call(2), call(3), call(4))
		}
	}
}

// P14.1: of plans of any size Make makes what may be loaded, or says that there are too many instructions; it doesn't say so of less than some four thousand.
func TestMany(t *testing.T) {
	was := 0
	for n := 400; n < 1000; n++ {
		p := ir.Plan{Cases: []ir.Case{{Number: 2, Branches: []ir.Branch{long(n, -1)}}}}
		if !wantMade(t, p) {
			break
		}
		l, _ := jump.Make(Parts(p))
		was = len(l)
	}
	if was < api.MaxInsns-10 || was > api.MaxInsns {
		t.Errorf("made %d at most", was)
	}
	if wantMade(t, apart(3000)) || wantMade(t, apart(100000)) || !wantMade(t, apart(700)) {
		t.Error("calls")
	}
}

// full is a policy of 64 rules of six conditions each, of unlike arguments, of a few calls.
func full(calls []names.Call, cond func(i int) policy.Cond) policy.Policy {
	p := policy.Policy{Name: "p", Default: record.Allow}
	for i := range api.MaxRules {
		x := policy.Rule{Number: calls[i%len(calls)].Number, Action: record.Fail(api.Errno(1 + i))}
		for j := range api.MaxConds {
			c := cond(6*i + j)
			c.Arg = j
			x.Conds = append(x.Conds, c)
		}
		p.Rules = append(p.Rules, x)
	}
	return p
}

// P14.1, for chapter 15: the greatest policies have filters, whose runs are no longer than that chapter tells: 20 steps, 2 a rule of the call, 10 a condition of these.
func TestGreatest(t *testing.T) {
	table := names.New()
	ways := []func(i int) policy.Cond{
		func(i int) policy.Cond { return policy.Cond{Op: policy.Op(1 + i%7), Mask: uint64(i%7/6) * 7, Value: 7} },
		func(int) policy.Cond { return policy.Cond{Op: policy.Masked, Mask: 1<<63 | 1, Value: 1<<63 | 1} },
	}
	for op := policy.Eq; op <= policy.Ge; op++ {
		ways = append(ways, func(int) policy.Cond { return policy.Cond{Op: op, Value: 7<<32 | 7} })
	}
	for _, way := range ways {
		for _, n := range []int{1, 2, 3, 16, 29, 30} {
			p := full(table.All()[30-n:], way)
			if e := p.Check(table); e != api.OK {
				t.Fatal(e)
			}
			wantSteps(t, p, table)
		}
	}
}

// wantSteps wants a policy's filter to say what the policy says, in no more steps than chapter 15 tells.
func wantSteps(t *testing.T, p policy.Policy, table *names.Table) {
	t.Helper()
	f := lowered(t, ir.Of(p))
	for _, c := range table.All() {
		most := 20
		for _, x := range p.Rules {
			if x.Number == c.Number {
				most += 2 + 10*len(x.Conds)
			}
		}
		for _, n := range []uint64{0, 7, 8, 7<<32 | 7, 7<<32 | 8, 7<<32 | 6, 1<<63 | 1, math.MaxUint64} {
			r := call(c.Number, n, n, n, n, n, n)
			a, steps := f.Run(r)
			if a != mean.Says(p, r) || steps > most {
				t.Fatalf("%s %#x: %#x, want %#x; %d steps, want %d at most", c.Name, n, uint32(a), uint32(mean.Says(p, r)), steps, most)
			}
		}
	}
}

// P3: the filter of a policy's text says of calls what the policy says.
func TestText(t *testing.T) {
	p, w := parse.New().Parse("policy p\ndefault kill\ncall open allow\ncall open errno 13 if arg1 & 2 == 2\ncall open log if arg0 > 0x100000007 and arg1 <= 9\ncall read errno 5 if arg2 != 4294967296\ncall read allow\ncall write allow if arg0 < 0\n")
	if w.Err != api.OK {
		t.Fatal(w)
	}
	f := lowered(t, ir.Of(p))
	values := append(whole(), 2, 3, 9, 10, 1<<32|7, 1<<32|8)
	for _, number := range []uint32{names.Open, names.Read, names.Write, 446} {
		for _, a := range values {
			for _, b := range values {
				r := call(number, a, b, a)
				if got, _ := f.Run(r); got != mean.Says(p, r) {
					t.Fatalf("%+v: %#x, want %#x", r, uint32(got), uint32(mean.Says(p, r)))
				}
			}
		}
	}
}

// R5: lists that are nil or empty mean the same.
func TestEmptyLists(t *testing.T) {
	a := ir.Plan{Cases: []ir.Case{{Number: 1, Branches: nil}, {Number: 2, Branches: []ir.Branch{{Conds: nil, Action: 7}}}}}
	b := ir.Plan{Cases: []ir.Case{{Number: 1, Branches: []ir.Branch{}}, {Number: 2, Branches: []ir.Branch{{Conds: []policy.Cond{}, Action: 7}}}}}
	if !slices.Equal(Parts(a), Parts(b)) || !slices.Equal(Parts(ir.Plan{}), Parts(ir.Plan{Cases: []ir.Case{}})) {
		t.Error("parts differ")
	}
}

// R6: an answer is new memory, and what is handed in is neither changed, spare room included, nor kept.
func TestMemory(t *testing.T) {
	conds := []policy.Cond{is(1), {Arg: 1, Op: policy.Ne, Value: 3}, {Arg: 2, Op: policy.Masked, Mask: 1 << 40}, {Arg: 77}, {Arg: 78}}
	branches := []ir.Branch{{Conds: conds[:2], Action: 5}, {Conds: conds[1:3], Action: 6}, {Action: 77}, {Action: 78}}
	cases := []ir.Case{{Number: 1, Branches: branches[:2]}, {Number: 2, Branches: branches[1:3]}, {Number: 77}, {Number: 78}}
	p := ir.Plan{Cases: cases[:2], Default: record.Log}
	was := fmt.Sprintf("%#v %#v %#v", conds, branches, cases)
	first, second := Parts(p), Parts(p)
	want := slices.Clone(second)
	clear(first[:cap(first)])
	if !slices.Equal(second, want) || !slices.Equal(Parts(p), want) {
		t.Error("two answers share memory")
	}
	if fmt.Sprintf("%#v %#v %#v", conds, branches, cases) != was {
		t.Error("what was handed in was changed")
	}
	clear(conds)
	clear(branches)
	clear(cases)
	if !slices.Equal(second, want) {
		t.Error("what was handed in was kept")
	}
}

// R8: what is answered doesn't depend on what was asked ahead, nor on who else asks meanwhile.
func TestAtOnce(t *testing.T) {
	r := rand.New(rand.NewSource(8))
	var plans []ir.Plan
	var want [][]jump.Part
	for range 50 {
		plans = append(plans, chancePlan(r))
		want = append(want, Parts(plans[len(plans)-1]))
	}
	var all sync.WaitGroup
	for range 16 {
		all.Go(func() {
			for range 20 {
				for i, p := range plans {
					if !slices.Equal(Parts(p), want[i]) {
						t.Errorf("plan %d: parts differ", i)
					}
				}
			}
		})
	}
	all.Wait()
}

// P1: none panics, and each ends, whatever it is given: plans whose cases are in no order or come twice, with conditions of all kinds. What is made of them may be loaded, too.
func TestAnything(t *testing.T) {
	r := rand.New(rand.NewSource(1))
	for range 20000 {
		p := ir.Plan{Default: record.Action(r.Uint32())}
		for range r.Intn(9) {
			c := ir.Case{Number: r.Uint32() >> r.Intn(32)}
			for range r.Intn(4) {
				x := policy.Cond{Arg: int(r.Uint64()) >> r.Intn(64), Op: policy.Op(r.Intn(256)), Mask: r.Uint64(), Value: r.Uint64()}
				c.Branches = append(c.Branches, ir.Branch{Conds: append(chanceConds(r), x), Action: record.Action(r.Uint32())})
			}
			p.Cases = append(p.Cases, c)
		}
		if !wantMade(t, p) {
			t.Fatal("too many instructions")
		}
	}
	huge := ir.Plan{Cases: make([]ir.Case, 100000)}
	huge.Cases[7].Branches = []ir.Branch{long(100000, -1)}
	huge.Cases[8].Branches = make([]ir.Branch, 100000)
	if n := len(Parts(huge)); n < 1000000 || wantMade(t, huge) {
		t.Errorf("%d parts", n)
	}
}

// small is few rules that differ in how they are asked, and calls that tell them from each other.
func small() ([]policy.Rule, []record.Record) {
	rule := func(number uint32, a record.Action, conds ...policy.Cond) policy.Rule {
		return policy.Rule{Number: number, Action: a, Conds: conds}
	}
	a, b := is(1), policy.Cond{Arg: 1, Op: policy.Gt, Value: 4}
	high := policy.Cond{Arg: 1, Op: policy.Lt, Value: 1 << 32}
	l := []policy.Rule{
		rule(2, record.Allow), rule(2, record.Log, a), rule(2, record.Log, b), rule(2, record.Fail(1), a, b), rule(2, record.Fail(2), policy.Cond{Arg: 2, Op: policy.Ge}),
		rule(2, record.Kill, high, a), rule(2, record.Kill, a, is(2)), rule(2, 7, high), rule(2, record.Fail(3), policy.Cond{Arg: 6, Op: policy.Ge}),
		rule(2, record.Fail(4), policy.Cond{Op: policy.Masked, Mask: 3, Value: 2}), rule(3, record.Log, a), rule(1, record.Fail(5)),
	}
	var calls []record.Record
	for number := range uint32(5) {
		for n := range uint64(4) {
			calls = append(calls, call(number, n, 4), call(number, n, 5), call(number, n, 1<<32))
		}
	}
	return l, append(calls, foreign(calls[0], 1))
}

// P14.1, P3: all policies of up to three of such rules.
func TestAllSmall(t *testing.T) {
	l, calls := small()
	var rules []policy.Rule
	var grow func(left int)
	grow = func(left int) {
		p := policy.Policy{Default: record.Fail(99), Rules: rules}
		f := lowered(t, ir.Of(p))
		for _, r := range calls {
			if got, _ := f.Run(r); got != mean.Says(p, r) {
				t.Fatalf("%+v of %+v: %#x, want %#x", p, r, uint32(got), uint32(mean.Says(p, r)))
			}
		}
		if left == 0 {
			return
		}
		for _, x := range l {
			rules = append(rules, x)
			grow(left - 1)
			rules = rules[:len(rules)-1]
		}
	}
	grow(3)
}

// P14.1: each instruction is one of layer 3's that a filter of decisions wants: no number but those of the record is loaded, none is kept.
func TestInstructions(t *testing.T) {
	r := rand.New(rand.NewSource(2))
	for range 1000 {
		for _, p := range Parts(chancePlan(r)) {
			i := p.Insn
			switch {
			case p.Kind == jump.Here && i == insn.Insn{}:
			case p.Kind == jump.Plain && (i == insn.Load(i.K) || i == insn.Mask(i.K) || i == insn.Return(i.K)):
			case p.Kind == jump.If && (i == insn.If(insn.Jeq, i.K, 0, 0) || i == insn.If(insn.Jgt, i.K, 0, 0) || i == insn.If(insn.Jge, i.K, 0, 0)):
			default:
				t.Fatalf("%+v", p)
			}
		}
	}
}
