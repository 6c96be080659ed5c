package lower

import (
	"fmt"
	"math"
	"math/big"
	"math/rand"
	"slices"
	"testing"

	"pinfold/api"
	"pinfold/check"
	"pinfold/insn"
	"pinfold/ir"
	"pinfold/jump"
	"pinfold/mean"
	"pinfold/policy"
	"pinfold/record"
	"pinfold/vm"
)

// toldHolds: does a condition hold of a number? Numbers are held against each other as numbers without an end.
func toldHolds(c policy.Cond, n uint64) bool {
	if c.Arg < 0 || c.Arg > 5 {
		return false
	}
	big := func(n uint64) *big.Int { return new(big.Int).SetUint64(n) }
	order := big(n).Cmp(big(c.Value))
	switch c.Op {
	case 1:
		return order == 0
	case 2:
		return order != 0
	case 3:
		return order < 0
	case 4:
		return order <= 0
	case 5:
		return order > 0
	case 6:
		return order >= 0
	case 7:
		for bit := range 64 {
			asked := c.Mask>>bit&1 == 1
			if asked && n>>bit&1 != c.Value>>bit&1 || !asked && c.Value>>bit&1 == 1 {
				return false
			}
		}
		return true
	}
	return false
}

// toldArg is an argument; of those that there aren't, any number.
func toldArg(r record.Record, arg int) uint64 {
	if arg < 0 || arg > 5 {
		return 0
	}
	return r.Args[arg]
}

// toldDecide: what a plan says: all its branches are gone over.
func toldDecide(p ir.Plan, r record.Record) record.Action {
	if r.Arch != 0xc000003e {
		return 0x80000000
	}
	for _, c := range p.Cases {
		for _, b := range c.Branches {
			fail := c.Number != r.Number
			for _, x := range b.Conds {
				fail = fail || !toldHolds(x, toldArg(r, x.Arg))
			}
			if !fail {
				return b.Action
			}
		}
	}
	return p.Default
}

// toldWanted: does it hang on the low half whether a condition holds of a number? Told by trying each low half at which it may turn.
func toldWanted(c policy.Cond, n uint64) bool {
	high := n &^ math.MaxUint32
	holds := toldHolds(c, high)
	low := uint32(c.Value)
	tries := []uint32{low - 1, low, low + 1, math.MaxUint32}
	for bit := range 32 {
		tries = append(tries, low^1<<bit)
	}
	return slices.ContainsFunc(tries, func(x uint32) bool { return toldHolds(c, high|uint64(x)) != holds })
}

// toldLooks: the places at which a filter looks that asks one condition of call 2: Arch, Number, the argument's high half, its low one, if it is wanted.
func toldLooks(c policy.Cond, n uint64) []uint32 {
	l := []uint32{4, 0, 20 + 8*uint32(c.Arg)}
	if toldWanted(c, n) {
		l = append(l, 16+8*uint32(c.Arg))
	}
	return l
}

// looks: the places of a record at which a run of a filter looks, in their order.
func looks(f *vm.Filter, r record.Record) []uint32 {
	var l []uint32
	insns := f.Insns()
	for _, t := range f.Traces(r) {
		if i := insns[t.At]; i.Code == 0x20 {
			l = append(l, i.K)
		}
	}
	return l
}

// filter is the filter of parts.
func filter(t *testing.T, parts []jump.Part) *vm.Filter {
	t.Helper()
	l, e := jump.Make(parts)
	if e != api.OK {
		t.Fatalf("Make: %d", e)
	}
	f, w := vm.Load(l)
	if w != (check.Wrong{}) {
		t.Fatalf("Load: %+v", w)
	}
	return f
}

// lowered is the filter of a plan.
func lowered(t *testing.T, p ir.Plan) *vm.Filter {
	t.Helper()
	return filter(t, Parts(p))
}

// wantSaid wants a filter to say of calls what a plan says, and to look at each argument's high half first.
func wantSaid(t *testing.T, f *vm.Filter, p ir.Plan, l ...record.Record) {
	t.Helper()
	for _, r := range l {
		got, _ := f.Run(r)
		if want := toldDecide(p, r); got != want || p.Decide(r) != want {
			t.Fatalf("%+v of %+v: %#x, want %#x (Decide: %#x)", p, r, uint32(got), uint32(want), uint32(p.Decide(r)))
		}
		wantHighFirst(t, looks(f, r))
	}
}

// wantHighFirst wants what is looked at to be Arch, then Number, then arguments: of each the high half, or that and the low one.
func wantHighFirst(t *testing.T, l []uint32) {
	t.Helper()
	for i, at := range l {
		switch {
		case i == 0 && at == 4, i == 1 && at == 0:
		case i > 1 && at >= 16 && at%8 == 4:
		case i > 2 && at >= 16 && at%8 == 0 && l[i-1] == at+4:
		default:
			t.Fatalf("looked at %v", l)
		}
	}
}

// wantPlan wants the filters of a plan, tidied too, to say of calls what the plan says.
func wantPlan(t *testing.T, p ir.Plan, l ...record.Record) {
	t.Helper()
	parts := Parts(p)
	wantForward(t, parts)
	wantSaid(t, filter(t, parts), p, l...)
	wantSaid(t, filter(t, jump.Tidy(parts)), p, l...)
}

// wantForward wants parts to be such as chapter 13's Tidy is meant for: each name is Here once, and behind those that go to it.
func wantForward(t *testing.T, l []jump.Part) {
	t.Helper()
	there := map[jump.Name]bool{}
	for at, p := range slices.Backward(l) {
		ways := []jump.Name{}
		switch p.Kind {
		case jump.Here:
			if there[p.To] {
				t.Fatalf("part %d: %d is twice", at, p.To)
			}
			there[p.To] = true
		case jump.Plain:
		case jump.If:
			ways = append(ways, p.To, p.Else)
		case jump.Goto:
			ways = append(ways, p.To)
		default:
			t.Fatalf("part %d: kind %d", at, p.Kind)
		}
		for _, n := range ways {
			if !there[n] {
				t.Fatalf("part %d: goes to %d, which isn't behind it", at, n)
			}
		}
	}
}

// wantMade wants Make to make what may be loaded of a plan's parts, or to say that they are too many.
func wantMade(t *testing.T, p ir.Plan) bool {
	t.Helper()
	l, e := jump.Make(Parts(p))
	if e == api.ErrMany {
		return false
	}
	if w := check.Check(l); e != api.OK || w != (check.Wrong{}) {
		t.Fatalf("Make: %d, Check: %+v", e, w)
	}
	return true
}

// oneOf picks one of a few.
func oneOf[T any](r *rand.Rand, few ...T) T { return few[r.Intn(len(few))] }

// halves is halves of numbers at which a comparison turns, or might seem to.
var halves = []uint32{0, 1, 7, 1<<31 - 1, 1 << 31, math.MaxUint32 - 1, math.MaxUint32}

// whole is all numbers of two such halves.
func whole() []uint64 {
	var l []uint64
	for _, high := range halves {
		for _, low := range halves {
			l = append(l, uint64(high)<<32|uint64(low))
		}
	}
	return l
}

// chanceCond: a condition of few arguments and numbers; now and then one that may not be.
func chanceCond(r *rand.Rand) policy.Cond {
	half := func() uint64 { return uint64(oneOf(r, halves[r.Intn(len(halves))], 5, r.Uint32())) }
	c := policy.Cond{Arg: r.Intn(6), Op: policy.Op(1 + r.Intn(7)), Value: half()<<32 | half()}
	if c.Op == policy.Masked {
		c.Mask = oneOf(r, half(), half()<<32, half()<<32|half())
		c.Value &= c.Mask
	}
	if r.Intn(30) == 0 {
		c = policy.Cond{Arg: r.Intn(10) - 2, Op: policy.Op(r.Intn(10)), Mask: uint64(r.Intn(2)), Value: oneOf[uint64](r, 0, 1, math.MaxUint64)}
	}
	return c
}

// actions is actions of all kinds, among them such as no policy may have.
var actions = []record.Action{record.Kill, record.Fail(1), record.Fail(13), record.Log, record.Allow, 0, 7, 0x0005ffff, 0x7ffc0001, 0x7fffffff, math.MaxUint32}

// chanceConds: some conditions.
func chanceConds(r *rand.Rand) []policy.Cond {
	var l []policy.Cond
	for range oneOf(r, 0, 1, 1, 1, 2, 2, 3, 6) {
		l = append(l, chanceCond(r))
	}
	return l
}

// chanceNumbers is numbers of calls that come by chance.
var chanceNumbers = []uint32{0, 1, 2, 3, 80, 81, 446, 447, 1 << 31, math.MaxUint32}

// chancePlan: a plan of few calls, its cases by their numbers.
func chancePlan(r *rand.Rand) ir.Plan {
	p := ir.Plan{Default: oneOf(r, actions...)}
	often := r.Intn(4)
	for _, number := range chanceNumbers {
		if r.Intn(4) > often {
			continue
		}
		c := ir.Case{Number: number}
		for range r.Intn(5) {
			c.Branches = append(c.Branches, ir.Branch{Conds: chanceConds(r), Action: oneOf(r, actions...)})
		}
		p.Cases = append(p.Cases, c)
	}
	return p
}

// chanceRecord: a call, mostly with numbers near those of a plan's conditions.
func chanceRecord(r *rand.Rand, p ir.Plan) record.Record {
	x := record.Record{Number: oneOf(r, chanceNumbers...) + uint32(r.Intn(9)/8), Arch: record.Arch, At: r.Uint64()}
	for i := range x.Args {
		x.Args[i] = oneOf(r, r.Uint64(), uint64(r.Intn(9)), 0, math.MaxUint64)
	}
	for _, c := range p.Cases {
		for _, b := range c.Branches {
			for _, d := range b.Conds {
				if r.Intn(3) > 0 && c.Number == x.Number && 0 <= d.Arg && d.Arg < 6 {
					x.Args[d.Arg] = d.Value + oneOf[uint64](r, 0, 0, 0, 1, math.MaxUint64, 1<<32, 1<<63, 1<<r.Intn(64))
				}
			}
		}
	}
	if r.Intn(20) == 0 {
		x.Arch ^= 1 << r.Intn(32)
	}
	return x
}

// P14.1, R6, R8: plans and calls by chance: what filters say is held against what the chapters' words tell; no plan is changed, and each answer comes twice.
func TestChance(t *testing.T) {
	r := rand.New(rand.NewSource(14))
	said := map[string]int{}
	for range 6000 {
		p := chancePlan(r)
		was := fmt.Sprintf("%#v", p)
		var l []record.Record
		for range 12 {
			x := chanceRecord(r, p)
			l = append(l, x)
			switch a := p.Decide(x); {
			case x.Arch != record.Arch:
				said["foreign"]++
			case a == p.Default:
				said["default"]++
			default:
				said["branch"]++
			}
		}
		for range 2 {
			wantPlan(t, p, l...)
		}
		if got := fmt.Sprintf("%#v", p); got != was {
			t.Fatalf("changed: %s, was %s", got, was)
		}
	}
	if said["foreign"] < 1000 || said["default"] < 5000 || said["branch"] < 5000 {
		t.Errorf("said: %v", said)
	}
}

// chancePolicy: a policy of rules of few calls.
func chancePolicy(r *rand.Rand) policy.Policy {
	p := policy.Policy{Default: oneOf(r, actions...)}
	for range r.Intn(12) {
		p.Rules = append(p.Rules, policy.Rule{Number: oneOf(r, chanceNumbers...), Action: oneOf(r, actions...), Conds: chanceConds(r)})
	}
	return p
}

// P3: the filters of policies by chance say of calls by chance what the policies say; no instruction of theirs is laid in vain, that is, so that no way goes to it.
func TestPoliciesByChance(t *testing.T) {
	r := rand.New(rand.NewSource(3))
	for range 6000 {
		p := chancePolicy(r)
		plan := ir.Of(p)
		f := lowered(t, plan)
		if slices.Contains(check.Reached(f.Insns()), false) {
			t.Fatalf("%+v: no way goes to an instruction: %v", p, f.Insns())
		}
		for range 12 {
			x := chanceRecord(r, plan)
			if got, _ := f.Run(x); got != mean.Says(p, x) {
				t.Fatalf("%+v of %+v: %#x, want %#x", p, x, uint32(got), uint32(mean.Says(p, x)))
			}
		}
	}
}

// loads: the places of a record at which code looks, and how many of its instructions load anything.
func loads(l []insn.Insn) (places []uint32, all int) {
	for _, i := range l {
		if i.Code == 0x20 {
			places = append(places, i.K)
		}
		if i.Code%8 < 2 {
			all++
		}
	}
	return places, all
}
