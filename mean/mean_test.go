package mean

import (
	"fmt"
	"math"
	"slices"
	"sync"
	"testing"

	"pinfold/insn"
	"pinfold/names"
	"pinfold/parse"
	"pinfold/policy"
	"pinfold/record"
	"pinfold/vm"
)

// turns is numbers at which a comparison turns: of both halves, and of the bit that would be a sign.
var turns = []uint64{
	0, 1, 2, 3, 7, 1<<31 - 1, 1 << 31, 1<<32 - 1, 1 << 32, 1<<32 + 1, 3 << 32, 3<<32 | 3,
	1<<63 - 1, 1 << 63, 1<<63 + 1, math.MaxUint64 - 1, math.MaxUint64,
}

// ranked is actions, those of the strongest kind first; of one kind several, whose low bits would tell another order.
var ranked = [][]record.Action{
	{0x80000000, 0x8000ffff, 0, 7, 0x00040000, 0x00060000, 0x7ffd0000, 0xffffffff},
	{0x0005000d, 0x00050000, 0x00050fff, 0x0005ffff},
	{0x7ffc0000, 0x7ffc0001, 0x7ffcffff},
	{0x7fff0000, 0x7fff0001, 0x7fffffff},
}

// call is a call of a number, with arguments.
func call(number uint32, args ...uint64) record.Record {
	r := record.Record{Number: number, Arch: record.Arch}
	copy(r.Args[:], args)
	return r
}

// foreign is a call of another machine.
func foreign(r record.Record, arch uint32) record.Record {
	r.Arch = arch
	return r
}

// rule is a rule of call 2.
func rule(a record.Action, conds ...policy.Cond) policy.Rule {
	return policy.Rule{Number: 2, Action: a, Conds: conds}
}

// never is a condition that holds of no call, always one that holds of each.
var (
	never  = policy.Cond{Arg: 3, Op: policy.Lt}
	always = policy.Cond{Arg: 3, Op: policy.Ge}
)

// listed is a policy of rules of call 2 with such actions, whose default no rule has.
func listed(l ...record.Action) policy.Policy {
	p := policy.Policy{Default: 0x00050123}
	for _, a := range l {
		p.Rules = append(p.Rules, rule(a))
	}
	return p
}

// parsed is the policy of a text.
func parsed(t *testing.T, s string) policy.Policy {
	t.Helper()
	p, w := parse.New().Parse(s)
	if w.Err != 0 {
		t.Fatalf("%q: %+v", s, w)
	}
	return p
}

func wantHolds(t *testing.T, c policy.Cond, n uint64, want bool) {
	t.Helper()
	r := record.Record{}
	r.Args[c.Arg] = n
	if got := Holds(c, r); got != want {
		t.Errorf("Holds of %+v, where it is %#x: %v", c, n, got)
	}
}

func wantSays(t *testing.T, p policy.Policy, r record.Record, want record.Action) {
	t.Helper()
	if got := Says(p, r); got != want {
		t.Errorf("Says of %+v, %+v: %#x, want %#x", p, r, uint32(got), uint32(want))
	}
}

func wantAll(t *testing.T, l []policy.Policy, r record.Record, want record.Action) {
	t.Helper()
	if got := All(l, r); got != want {
		t.Errorf("All of %+v, %+v: %#x, want %#x", l, r, uint32(got), uint32(want))
	}
}

func wantSpeaks(t *testing.T, p policy.Policy, r record.Record, wantAll []int, want int) {
	t.Helper()
	if all, counts := Speaks(p, r); !slices.Equal(all, wantAll) || counts != want {
		t.Errorf("Speaks of %+v, %+v: %v, %d, want %v, %d", p, r, all, counts, wantAll, want)
	}
}

// The document's example.
func TestExample(t *testing.T) {
	p := parsed(t, "policy p\ndefault kill\ncall open allow\ncall open errno 13 if arg1 & 2 == 2\n")
	wantSays(t, p, call(names.Open, 0, 3), record.Fail(13))
	wantSpeaks(t, p, call(names.Open, 0, 3), []int{0, 1}, 1)
	wantSays(t, p, call(names.Open, 3, 1), record.Allow)
	wantSpeaks(t, p, call(names.Open, 3, 1), []int{0}, 0)
	wantSays(t, p, call(names.Read, 0, 3), record.Kill)
	wantSpeaks(t, p, call(names.Read, 0, 3), nil, -1)
}

// P11.1: each way at a number, just beneath it and just above.
func TestHolds(t *testing.T) {
	for _, n := range []uint64{1, 5, 1 << 31, 1 << 32, 1<<32 + 1, 1 << 63, math.MaxUint64 - 1} {
		for _, x := range []struct {
			op                     policy.Op
			beneath, itself, above bool
		}{
			{policy.Eq, false, true, false},
			{policy.Ne, true, false, true},
			{policy.Lt, true, false, false},
			{policy.Le, true, true, false},
			{policy.Gt, false, false, true},
			{policy.Ge, false, true, true},
		} {
			c := policy.Cond{Op: x.op, Value: n}
			wantHolds(t, c, n-1, x.beneath)
			wantHolds(t, c, n, x.itself)
			wantHolds(t, c, n+1, x.above)
		}
	}
}

// P11.1: where bits are masked, just those count that the mask has.
func TestHoldsMasked(t *testing.T) {
	for _, x := range []struct {
		mask, value, n uint64
		want           bool
	}{
		{2, 2, 3, true}, {2, 2, 2, true}, {2, 2, 1, false}, {2, 2, 0, false}, {2, 0, 1, true}, {2, 0, 2, false},
		{6, 2, 2, true}, {6, 2, 6, false}, {6, 2, 4, false}, {6, 2, math.MaxUint64 - 4, true},
		{1 << 63, 1 << 63, 1 << 63, true}, {1 << 63, 1 << 63, math.MaxUint64 >> 1, false},
		{1 << 32, 1 << 32, 1, false}, {1 << 32, 0, math.MaxUint32, true},
		{math.MaxUint64, 9, 9, true}, {math.MaxUint64, 9, 9 | 1<<40, false}, {math.MaxUint32, 9, 9 | 1<<40, true},
		{0, 0, 0, true}, {0, 0, math.MaxUint64, true}, {0, 1, 1, false}, {2, 3, 3, false}, {2, 3, 2, false},
	} {
		wantHolds(t, policy.Cond{Arg: 1, Op: policy.Masked, Mask: x.mask, Value: x.value}, x.n, x.want)
	}
}

// P11.1: all ways, and others that there aren't, at all numbers at which one turns; the mask counts with Masked alone.
func TestHoldsAll(t *testing.T) {
	for op := range 256 {
		for _, n := range turns {
			for _, value := range turns {
				for _, mask := range turns {
					c := policy.Cond{Arg: op % 6, Op: policy.Op(op), Mask: mask, Value: value}
					r := record.Record{}
					r.Args[c.Arg] = n
					wantHolds(t, c, n, toldHolds(c, r))
				}
			}
		}
	}
}

// P11.1: an argument is looked at by its own place, and nothing else of a call is.
func TestHoldsArgs(t *testing.T) {
	r := record.Record{Number: 10, Arch: 11, At: 12, Args: [6]uint64{100, 101, 102, 103, 104, 105}}
	for arg := range 6 {
		for n := range uint64(200) {
			c := policy.Cond{Arg: arg, Op: policy.Eq, Value: n}
			if got := Holds(c, r); got != (n == uint64(100+arg)) {
				t.Errorf("Holds of %+v: %v", c, got)
			}
		}
	}
}

// P11.1: no condition holds of another argument than 0 to 5, nor in another way, whatever else it has.
func TestHoldsOfNone(t *testing.T) {
	r := record.Record{}
	for op := range 256 {
		for _, value := range []uint64{0, 1, math.MaxUint64} {
			for _, arg := range []int{-1, -2, -6, 6, 7, 8, 255, 256, 1 << 32, -1 << 32, math.MaxInt, math.MinInt} {
				if c := (policy.Cond{Arg: arg, Op: policy.Op(op), Value: value}); Holds(c, r) {
					t.Errorf("%+v holds", c)
				}
			}
			if c := (policy.Cond{Op: policy.Op(op), Value: value}); (op == 0 || op > 7) && Holds(c, r) {
				t.Errorf("%+v holds", c)
			}
		}
	}
}

// P11.1: of all numbers a rule has to have the call's, each bit of it; whether there is such a call doesn't count, nor what comes of it, nor the machine.
func TestMatchesNumber(t *testing.T) {
	for _, n := range []uint32{0, 2, 3, 446, 447, 1 << 31, math.MaxUint32} {
		for _, x := range []policy.Rule{{Number: n}, {Number: n, Action: record.Allow, Conds: []policy.Cond{}}, {Number: n, Action: 7, Conds: []policy.Cond{always}}} {
			if !Matches(x, call(n)) || !Matches(x, foreign(call(n), 0)) {
				t.Errorf("%+v doesn't match", x)
			}
			for bit := range 32 {
				if Matches(x, call(n^1<<bit)) {
					t.Errorf("%+v matches %d", x, n^1<<bit)
				}
			}
		}
	}
}

// P11.1: all conditions have to hold, wherever they stand, and more than may be, too.
func TestMatchesConds(t *testing.T) {
	for n := range 9 {
		for which := range 1 << n {
			var l []policy.Cond
			for i := range n {
				l = append(l, policy.Cond{Arg: i % 6, Op: policy.Eq, Value: uint64(which >> i & 1)})
			}
			x := rule(record.Allow, l...)
			if got := Matches(x, call(2)); got != (which == 0) {
				t.Errorf("Matches of %+v: %v", x, got)
			}
			if Matches(x, call(3)) {
				t.Errorf("%+v matches another call", x)
			}
		}
	}
	for _, c := range []policy.Cond{{Arg: 6, Op: policy.Ge}, {Arg: -1, Op: policy.Ge}, {Op: 0}, {Op: 8}} {
		if Matches(rule(record.Kill, always, c), call(2)) {
			t.Errorf("a rule with %+v matches", c)
		}
	}
}

// P11.2: of a foreign machine a policy says Kill, whatever it says else; Speaks doesn't look at the machine.
func TestForeign(t *testing.T) {
	for _, p := range []policy.Policy{{}, {Default: record.Allow}, listed(record.Allow), listed(0), listed(record.Kill + 1), listed(record.Fail(13), record.Log)} {
		for bit := range 32 {
			r := foreign(call(2), record.Arch^1<<bit)
			wantSays(t, p, r, record.Kill)
			wantAll(t, []policy.Policy{p}, r, record.Kill)
			all, counts := Speaks(p, call(2))
			wantSpeaks(t, p, r, all, counts)
		}
		wantSays(t, p, foreign(call(2), 0), record.Kill)
	}
	wantSays(t, listed(record.Allow), call(2), record.Allow)
	wantSpeaks(t, listed(record.Allow, record.Kill), foreign(call(2), 0), []int{0, 1}, 1)
	wantAll(t, nil, foreign(call(2), 0), record.Allow)
}

// P11.2: where no rule matches, the default counts, as it is.
func TestDefault(t *testing.T) {
	for _, l := range ranked {
		for _, a := range l {
			p := policy.Policy{Default: a}
			wantSays(t, p, call(2), a)
			wantSpeaks(t, p, call(2), nil, -1)
			p.Rules = []policy.Rule{rule(record.Kill, never), {Number: 3}, rule(record.Allow, always, never)}
			wantSays(t, p, call(2), a)
			wantSpeaks(t, p, call(2), nil, -1)
			p.Rules = append(p.Rules, rule(record.Allow))
			wantSays(t, p, call(2), record.Allow)
			wantSpeaks(t, p, call(2), []int{3}, 3)
		}
	}
}

// each goes over all lists of n of the actions of ranked.
func each(n int, do func(l []record.Action)) {
	if n == 0 {
		do(nil)
		return
	}
	each(n-1, func(ahead []record.Action) {
		for _, l := range ranked {
			for _, a := range l {
				do(append(slices.Clone(ahead), a))
			}
		}
	})
}

// first is where the first one of the strongest kind stands.
func first(l []record.Action) int {
	at := 0
	for i, a := range l {
		if toldRank(a) < toldRank(l[at]) {
			at = i
		}
	}
	return at
}

// P11.2: of all rules that match the first one of the strongest kind counts, as it is; those between them that don't match do not.
func TestSaysStrongest(t *testing.T) {
	for n := 1; n <= 3; n++ {
		each(n, func(l []record.Action) {
			p := listed(l...)
			wantSays(t, p, call(2), l[first(l)])
			all, counts := Speaks(p, call(2))
			if len(all) != n || counts != first(l) {
				t.Errorf("Speaks of %#x: %v, %d", l, all, counts)
			}
			var mixed policy.Policy
			for _, a := range l {
				mixed.Rules = append(mixed.Rules, rule(0, never), rule(a, always), policy.Rule{Number: 3})
			}
			wantSays(t, mixed, call(2), l[first(l)])
			wantSpeaks(t, mixed, call(2), []int{1, 4, 7}[:n], 1+3*first(l))
		})
	}
}

// P11.2: policies together say the strongest of what each says; of one kind what the last one says; Allow as it is, if all allow, or there are none.
func TestAll(t *testing.T) {
	wantAll(t, nil, call(2), record.Allow)
	wantAll(t, []policy.Policy{}, call(2), record.Allow)
	for n := 1; n <= 3; n++ {
		each(n, func(l []record.Action) {
			defaults, rules := make([]policy.Policy, n), make([]policy.Policy, n)
			for i, a := range l {
				defaults[i].Default = a
				rules[i] = listed(a)
			}
			slices.Reverse(l)
			want := l[first(l)]
			if toldRank(want) == 3 {
				want = record.Allow
			}
			wantAll(t, defaults, call(2), want)
			wantAll(t, rules, call(2), want)
		})
	}
	wantAll(t, []policy.Policy{listed(record.Fail(1)), listed(record.Fail(2)), listed(record.Log)}, call(2), record.Fail(2))
	wantAll(t, []policy.Policy{listed(record.Allow), {Default: record.Allow + 7}}, call(2), record.Allow)
}

// filtered is policies, and beside each a filter that was written by hand to say the same.
func filtered(t *testing.T) ([]policy.Policy, []*vm.Filter) {
	head := []insn.Insn{insn.Load(record.AtArch), insn.If(insn.Jeq, record.Arch, 1, 0), insn.Return(uint32(record.Kill))}
	texts := []string{
		"policy p\ndefault allow\n",
		"policy p\ndefault kill\ncall open allow\ncall open errno 13 if arg1 & 2 == 2\n",
		"policy p\ndefault log\ncall open errno 5 if arg0 >= 4294967298\n",
	}
	codes := [][]insn.Insn{
		{insn.Return(uint32(record.Allow))},
		{
			insn.Load(record.AtNumber), insn.If(insn.Jeq, 2, 0, 3),
			insn.Load(record.Half(1, false)), insn.If(insn.Jset, 2, 2, 0),
			insn.Return(uint32(record.Allow)), insn.Return(uint32(record.Kill)), insn.Return(uint32(record.Fail(13))),
		},
		{
			insn.Load(record.AtNumber), insn.If(insn.Jeq, 2, 0, 4),
			insn.Load(record.Half(0, true)), insn.If(insn.Jgt, 1, 3, 0), insn.If(insn.Jeq, 1, 0, 1),
			insn.Skip(2), insn.Return(uint32(record.Log)), insn.Return(uint32(record.Fail(5))),
			insn.Load(record.Half(0, false)), insn.If(insn.Jge, 2, 0, 1), insn.Return(uint32(record.Fail(5))), insn.Return(uint32(record.Log)),
		},
	}
	var l []policy.Policy
	var filters []*vm.Filter
	for i, s := range texts {
		f, w := vm.Load(append(slices.Clone(head), codes[i]...))
		if w.Err != 0 {
			t.Fatalf("filter %d: %+v", i, w)
		}
		l, filters = append(l, parsed(t, s)), append(filters, f)
	}
	return l, filters
}

// P3: a policy says of a call what a filter says that was made of its text; so do several.
func TestFiltersSayTheSame(t *testing.T) {
	l, filters := filtered(t)
	for _, number := range []uint32{0, 2, 3} {
		for _, a := range turns {
			for _, b := range turns {
				for _, arch := range []uint32{record.Arch, 0, record.Arch + 1} {
					r := foreign(call(number, a, b), arch)
					for i, p := range l {
						if said, _ := filters[i].Run(r); said != Says(p, r) {
							t.Errorf("%+v: policy %d says %#x, its filter %#x", r, i, uint32(Says(p, r)), uint32(said))
						}
					}
					for n := range 4 {
						wantAll(t, l[:n], r, vm.All(filters[:n], r))
					}
				}
			}
		}
	}
}

// P4: with one policy more, wherever it stands, no call is let through that wasn't ahead of it, and nothing that is said is weaker.
func TestNeverMore(t *testing.T) {
	each(3, func(l []record.Action) {
		few := []policy.Policy{listed(l[0]), {Default: l[1]}}
		ahead := toldRank(All(few, call(2)))
		for at := range 3 {
			more := slices.Insert(slices.Clone(few), at, listed(l[2]))
			if now := toldRank(All(more, call(2))); now > ahead {
				t.Errorf("of %#x and %#x at %d: kind %d, ahead of it %d", l[:2], uint32(l[2]), at, now, ahead)
			}
		}
	})
}

// R6: an answer is new memory, and what is handed in isn't changed, spare room included.
func TestMemory(t *testing.T) {
	conds := []policy.Cond{always, always, {Arg: 77}}
	rules := []policy.Rule{rule(record.Allow, conds[:2]...), rule(record.Kill), {Number: 77}, {Number: 78}}
	p := policy.Policy{Default: record.Log, Rules: rules[:2]}
	l := []policy.Policy{p, p, {Name: "spare"}}
	was := fmt.Sprintf("%#v", l)
	a, _ := Speaks(p, call(2))
	b, _ := Speaks(p, call(2))
	clear(a[:cap(a)])
	if !slices.Equal(b, []int{0, 1}) {
		t.Error("two answers are one")
	}
	wantSpeaks(t, p, call(2), []int{0, 1}, 1)
	wantAll(t, l[:2], call(2), record.Kill)
	if fmt.Sprintf("%#v", l) != was || conds[2].Arg != 77 || rules[2].Number != 77 || rules[3].Number != 78 {
		t.Error("what was handed in was changed")
	}
}

// R8: what is answered doesn't depend on what was asked ahead, nor on who else asks meanwhile.
func TestAtOnce(t *testing.T) {
	l, _ := filtered(t)
	var all sync.WaitGroup
	for range 16 {
		all.Go(func() {
			for range 100 {
				wantAll(t, l, foreign(call(2), 1), record.Kill)
				wantAll(t, l, call(2, 0, 2), record.Fail(13))
				wantAll(t, l, call(2, 1<<33, 1), record.Fail(5))
				wantSpeaks(t, l[1], call(2, 0, 2), []int{0, 1}, 1)
				wantSpeaks(t, l[1], call(3), nil, -1)
			}
		})
	}
	all.Wait()
}
