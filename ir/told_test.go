package ir

import (
	"fmt"
	"math"
	"math/rand"
	"slices"
	"testing"

	"pinfold/mean"
	"pinfold/policy"
	"pinfold/record"
)

// toldRank is an action's kind, 0 the strongest.
func toldRank(a record.Action) int {
	return max(slices.Index([]uint32{0x8000, 0x0005, 0x7ffc, 0x7fff}, uint32(a)>>16), 0)
}

// toldHolding: of how many numbers does a comparison hold, of those at which it may turn? All or none of these is all or none of all numbers.
func toldHolding(c policy.Cond) (yes, no int) {
	c.Arg = 0
	for _, n := range []uint64{0, c.Value - 1, c.Value, c.Value + 1, math.MaxUint64} {
		if mean.Holds(c, record.Record{Args: [6]uint64{n}}) {
			yes++
		} else {
			no++
		}
	}
	return yes, no
}

// toldAlways, toldNever: does a condition hold of every number, of none? Told by trying, of the ways that compare; of others (bits that are masked, no way at all) the chapter doesn't say it.
func toldAlways(c policy.Cond) bool {
	_, no := toldHolding(c)
	return no == 0 && 1 <= c.Op && c.Op <= 6 && slices.Contains([]int{0, 1, 2, 3, 4, 5}, c.Arg)
}

func toldNever(c policy.Cond) bool {
	yes, _ := toldHolding(c)
	return yes == 0 && 1 <= c.Op && c.Op <= 6
}

// toldBranch: what is left of a rule: all pairs of its conditions are held against each other.
func toldBranch(x policy.Rule) (Branch, bool) {
	b := Branch{Action: x.Action}
	for i, c := range x.Conds {
		there := false
		for _, d := range x.Conds[:i] {
			if c.Op == 1 && d.Op == 1 && c.Arg == d.Arg && c.Value != d.Value {
				return Branch{}, false
			}
			there = there || c == d
		}
		if toldNever(c) {
			return Branch{}, false
		}
		if !there && !toldAlways(c) {
			b.Conds = append(b.Conds, c)
		}
	}
	return b, true
}

// toldOf: a policy's plan: number by number and kind by kind all rules are gone over, and what stands behind the first branch without conditions is cut.
func toldOf(p policy.Policy) Plan {
	var numbers []uint32
	for _, x := range p.Rules {
		numbers = append(numbers, x.Number)
	}
	slices.Sort(numbers)
	plan := Plan{Default: p.Default}
	for _, number := range slices.Compact(numbers) {
		var l []Branch
		for rank := range 4 {
			for _, x := range p.Rules {
				if b, ok := toldBranch(x); ok && x.Number == number && toldRank(x.Action) == rank {
					l = append(l, b)
				}
			}
		}
		if at := slices.IndexFunc(l, func(b Branch) bool { return len(b.Conds) == 0 }); at >= 0 {
			l = l[:at+1]
		}
		plan.Cases = append(plan.Cases, Case{Number: number, Branches: l})
	}
	return plan
}

// toldDecide: what a plan says: all its cases' branches are gone over.
func toldDecide(p Plan, r record.Record) record.Action {
	if r.Arch != 0xc000003e {
		return 0x80000000
	}
	for _, c := range p.Cases {
		for _, b := range c.Branches {
			fail := 0
			for _, x := range b.Conds {
				if !mean.Holds(x, r) {
					fail++
				}
			}
			if fail == 0 && c.Number == r.Number {
				return b.Action
			}
		}
	}
	return p.Default
}

// told is a plan as a text, lists that are nil or empty alike.
func told(p Plan) string {
	s := fmt.Sprintf("default %#x", uint32(p.Default))
	for _, c := range p.Cases {
		s += fmt.Sprintf("; %d", c.Number)
		for _, b := range c.Branches {
			s += fmt.Sprintf(" [%v %#x]", b.Conds, uint32(b.Action))
		}
	}
	return s
}

// hold holds the plan of a policy, its size, and what it decides of calls, against what is told.
func hold(t *testing.T, p policy.Policy, l ...record.Record) {
	t.Helper()
	plan, want := Of(p), toldOf(p)
	if told(plan) != told(want) {
		t.Fatalf("Of %+v:\n%s, want\n%s", p, told(plan), told(want))
	}
	var branches, conds int
	for _, c := range want.Cases {
		for _, b := range c.Branches {
			branches, conds = branches+1, conds+len(b.Conds)
		}
	}
	wantSize(t, plan, len(want.Cases), branches, conds)
	for _, r := range l {
		wantDecide(t, plan, r, mean.Says(p, r))
		wantDecide(t, plan, r, toldDecide(want, r))
	}
}

// oneOf picks one of a few.
func oneOf[T any](r *rand.Rand, few ...T) T { return few[r.Intn(len(few))] }

// chanceCond: a condition of few arguments and numbers, so that it often comes twice, or against another one; now and then one that may not be.
func chanceCond(r *rand.Rand) policy.Cond {
	c := policy.Cond{Arg: r.Intn(3), Op: policy.Op(1 + r.Intn(7)), Value: oneOf[uint64](r, 0, 0, 1, 5, 1<<32, math.MaxUint64, math.MaxUint64)}
	if c.Op == policy.Masked || r.Intn(30) == 0 {
		c.Mask = oneOf[uint64](r, 1, 5, 1<<32|1, math.MaxUint64)
		c.Value &= c.Mask
	}
	if r.Intn(30) == 0 {
		c = policy.Cond{Arg: r.Intn(10) - 2, Op: policy.Op(r.Intn(10)), Mask: uint64(r.Intn(2)), Value: oneOf[uint64](r, 0, 1, math.MaxUint64)}
	}
	return c
}

// chanceAction: mostly one that may be.
func chanceAction(r *rand.Rand) record.Action {
	if r.Intn(4) == 0 {
		return oneOf(r, ranked[r.Intn(4)]...)
	}
	return oneOf(r, record.Kill, record.Fail(1), record.Fail(13), record.Log, record.Allow)
}

// chancePolicy: a policy of few calls, so that often several of its rules are of one.
func chancePolicy(r *rand.Rand) policy.Policy {
	p := policy.Policy{Default: chanceAction(r)}
	for range r.Intn(9) {
		x := policy.Rule{Number: oneOf[uint32](r, 2, 2, 2, 1, 446), Action: chanceAction(r)}
		for range oneOf(r, 0, 1, 1, 1, 2, 2, 3, 6, 7) {
			x.Conds = append(x.Conds, chanceCond(r))
		}
		p.Rules = append(p.Rules, x)
	}
	return p
}

// chanceRecord: a call, mostly of a number that rules have.
func chanceRecord(r *rand.Rand) record.Record {
	x := record.Record{Number: oneOf[uint32](r, 2, 2, 2, 1, 446, 3), Arch: record.Arch, At: r.Uint64()}
	for i := range x.Args {
		x.Args[i] = oneOf(r, 0, 0, 1, 5, 6, 1<<32, 1<<32|1, math.MaxUint64, r.Uint64())
	}
	if r.Intn(20) == 0 {
		x.Arch ^= 1 << r.Intn(32)
	}
	return x
}

// P12.1, P12.2, P3, R6, R8: policies and calls by chance, held against what the chapter's words tell and against what mean.Says; none is changed, and each answer comes twice.
func TestChance(t *testing.T) {
	r := rand.New(rand.NewSource(12))
	var dropped, cut, left int
	for range 10000 {
		p := chancePolicy(r)
		was := fmt.Sprintf("%#v", p)
		var l []record.Record
		for range 8 {
			l = append(l, chanceRecord(r))
		}
		for range 2 {
			hold(t, p, l...)
		}
		if got := fmt.Sprintf("%#v", p); got != was {
			t.Fatalf("changed: %s, was %s", got, was)
		}
		_, branches, conds := Of(p).Size()
		for _, x := range p.Rules {
			if b, ok := toldBranch(x); !ok {
				dropped++
			} else {
				branches--
				conds -= len(b.Conds)
			}
		}
		if branches < 0 {
			cut++
		} else if conds == 0 && len(p.Rules) > 0 {
			left++
		}
	}
	if dropped < 5000 || cut < 1000 || left < 1000 {
		t.Errorf("just %d rules without a branch, %d plans of which branches were cut, %d of which none was", dropped, cut, left)
	}
}

// P12.2: plans by chance that no policy has: their branches in any order of kinds, with conditions that hold of all calls or of none, and more behind branches without conditions.
func TestChancePlans(t *testing.T) {
	r := rand.New(rand.NewSource(122))
	for range 10000 {
		plan := Plan{Default: chanceAction(r)}
		for _, number := range []uint32{1, 2, 446} {
			c := Case{Number: number}
			for range r.Intn(4) {
				b := Branch{Action: chanceAction(r)}
				for range r.Intn(4) {
					b.Conds = append(b.Conds, chanceCond(r))
				}
				c.Branches = append(c.Branches, b)
			}
			if r.Intn(3) > 0 {
				plan.Cases = append(plan.Cases, c)
			}
		}
		for range 8 {
			x := chanceRecord(r)
			wantDecide(t, plan, x, toldDecide(plan, x))
		}
	}
}
