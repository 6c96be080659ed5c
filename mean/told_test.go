package mean

import (
	"fmt"
	"math"
	"math/big"
	"math/rand"
	"slices"
	"testing"

	"pinfold/policy"
	"pinfold/record"
)

// toldHolds: does a condition hold? Told from the chapter's words anew: numbers are compared as ones of any length, and masked bit by bit.
func toldHolds(c policy.Cond, r record.Record) bool {
	if !slices.Contains([]int{0, 1, 2, 3, 4, 5}, c.Arg) {
		return false
	}
	n := r.Args[c.Arg]
	order := new(big.Int).SetUint64(n).Cmp(new(big.Int).SetUint64(c.Value))
	switch c.Op {
	case 1:
		return order == 0
	case 2:
		return order != 0
	case 3:
		return order == -1
	case 4:
		return order != 1
	case 5:
		return order == 1
	case 6:
		return order != -1
	case 7:
		for bit := range 64 {
			if c.Mask>>bit&1*(n>>bit&1) != c.Value>>bit&1 {
				return false
			}
		}
		return true
	}
	return false
}

// toldMatches: does a rule match? None of its conditions may fail.
func toldMatches(x policy.Rule, r record.Record) bool {
	fail := 0
	for _, c := range x.Conds {
		if !toldHolds(c, r) {
			fail++
		}
	}
	return fail == 0 && x.Number == r.Number
}

// toldRank is an action's kind, 0 the strongest.
func toldRank(a record.Action) int {
	return max(slices.Index([]uint32{0x8000, 0x0005, 0x7ffc, 0x7fff}, uint32(a)>>16), 0)
}

// toldSpeaks: where the rules stand that match, and the first one of the strongest kind: kind by kind they are gone over.
func toldSpeaks(p policy.Policy, r record.Record) ([]int, int) {
	var all []int
	for i, x := range p.Rules {
		if toldMatches(x, r) {
			all = append(all, i)
		}
	}
	for rank := range 4 {
		for _, i := range all {
			if toldRank(p.Rules[i].Action) == rank {
				return all, i
			}
		}
	}
	return nil, -1
}

// toldSays: what a policy says.
func toldSays(p policy.Policy, r record.Record) record.Action {
	_, counts := toldSpeaks(p, r)
	switch {
	case r.Arch != 0xc000003e:
		return 0x80000000
	case counts == -1:
		return p.Default
	}
	return p.Rules[counts].Action
}

// toldAll: what policies say together: Allow, if none says anything stronger; else what the last one says of those that say the strongest kind.
func toldAll(l []policy.Policy, r record.Record) record.Action {
	said := record.Action(0x7fff0000)
	for _, p := range l {
		if a := toldSays(p, r); toldRank(a) < 3 && toldRank(a) <= toldRank(said) {
			said = a
		}
	}
	return said
}

// hold holds all that is answered of a rule's list and a call against what is told.
func hold(t *testing.T, p policy.Policy, r record.Record) {
	t.Helper()
	for _, x := range p.Rules {
		for _, c := range x.Conds {
			if got, want := Holds(c, r), toldHolds(c, r); got != want {
				t.Fatalf("Holds of %+v, %+v: %v", c, r, got)
			}
		}
		if got, want := Matches(x, r), toldMatches(x, r); got != want {
			t.Fatalf("Matches of %+v, %+v: %v", x, r, got)
		}
	}
	if got, want := Says(p, r), toldSays(p, r); got != want {
		t.Fatalf("Says of %+v, %+v: %#x, want %#x", p, r, uint32(got), uint32(want))
	}
	all, counts := Speaks(p, r)
	if wantAll, want := toldSpeaks(p, r); !slices.Equal(all, wantAll) || counts != want {
		t.Fatalf("Speaks of %+v, %+v: %v, %d, want %v, %d", p, r, all, counts, wantAll, want)
	}
}

// oneOf picks one of a few.
func oneOf[T any](r *rand.Rand, few ...T) T { return few[r.Intn(len(few))] }

// chanceNumber: mostly a number at which something turns.
func chanceNumber(r *rand.Rand) uint64 {
	if r.Intn(20) == 0 {
		return r.Uint64() >> r.Intn(64)
	}
	return oneOf(r, turns...) + uint64(r.Intn(3)) - 1
}

// chanceCond: a condition; now and then one that may not be.
func chanceCond(r *rand.Rand) policy.Cond {
	c := policy.Cond{Arg: r.Intn(6), Op: policy.Op(1 + r.Intn(7)), Value: chanceNumber(r)}
	if c.Op == policy.Masked {
		c.Mask = chanceNumber(r)
		c.Value &= c.Mask
	}
	if r.Intn(100) == 0 {
		c = policy.Cond{Arg: r.Intn(10) - 2, Op: policy.Op(r.Intn(10)), Mask: chanceNumber(r), Value: chanceNumber(r)}
	}
	return c
}

// chancePolicy: a policy of few calls, so that often several of its rules match.
func chancePolicy(r *rand.Rand) policy.Policy {
	p := policy.Policy{Default: chanceAction(r)}
	for range r.Intn(7) {
		x := policy.Rule{Number: oneOf[uint32](r, 2, 2, 2, 1, 446), Action: chanceAction(r)}
		for range oneOf(r, 0, 0, 1, 1, 1, 2, 3, 6, 7) {
			x.Conds = append(x.Conds, chanceCond(r))
		}
		p.Rules = append(p.Rules, x)
	}
	return p
}

func chanceAction(r *rand.Rand) record.Action {
	if r.Intn(4) == 0 {
		return oneOf(r, ranked[r.Intn(4)]...)
	}
	return oneOf(r, record.Kill, record.Fail(1), record.Fail(13), record.Log, record.Allow, record.Allow)
}

func chanceRecord(r *rand.Rand) record.Record {
	x := record.Record{Number: oneOf[uint32](r, 2, 2, 2, 1, 446, 3), Arch: record.Arch, At: r.Uint64()}
	for i := range x.Args {
		x.Args[i] = chanceNumber(r)
	}
	if r.Intn(20) == 0 {
		x.Arch ^= 1 << r.Intn(32)
	}
	return x
}

// P11.1, P11.2, R6, R8: policies and calls by chance, held against what the chapter's words tell; none is changed by being asked, and each answer comes twice.
func TestChance(t *testing.T) {
	r := rand.New(rand.NewSource(11))
	var none, several, later int
	for range 4000 {
		l := []policy.Policy{chancePolicy(r), chancePolicy(r), chancePolicy(r)}[:r.Intn(4)]
		was := fmt.Sprintf("%#v", l)
		for range 8 {
			x := chanceRecord(r)
			for range 2 {
				for _, p := range l {
					hold(t, p, x)
				}
				if got, want := All(l, x), toldAll(l, x); got != want {
					t.Fatalf("All of %+v, %+v: %#x, want %#x", l, x, uint32(got), uint32(want))
				}
			}
			for _, p := range l {
				all, counts := toldSpeaks(p, x)
				switch {
				case len(all) == 0:
					none++
				case counts != all[0]:
					later++
				case len(all) > 1:
					several++
				}
			}
		}
		if got := fmt.Sprintf("%#v", l); got != was {
			t.Fatalf("changed: %s, was %s", got, was)
		}
	}
	if none < 1000 || several < 1000 || later < 1000 {
		t.Errorf("just %d of which none speaks, %d of several of which the first counts, %d of which a later one does", none, several, later)
	}
}

// P1: none panics, and each ends, whatever it is given.
func TestAnything(t *testing.T) {
	r := rand.New(rand.NewSource(1))
	for range 20000 {
		c := policy.Cond{Arg: int(r.Uint64()) >> r.Intn(64), Op: policy.Op(r.Intn(256)), Mask: r.Uint64(), Value: r.Uint64()}
		x := policy.Rule{Number: r.Uint32() >> r.Intn(32), Action: record.Action(r.Uint32()), Conds: []policy.Cond{c}}
		y := record.Record{Number: r.Uint32() >> r.Intn(32), Arch: r.Uint32(), Args: [6]uint64{r.Uint64(), r.Uint64()}}
		p := policy.Policy{Default: record.Action(r.Uint32()), Rules: []policy.Rule{x, {}}}
		hold(t, p, y)
		hold(t, p, record.Record{})
	}
	conds := slices.Repeat([]policy.Cond{{Op: policy.Ge}}, 100000)
	rules := slices.Repeat([]policy.Rule{{Action: record.Allow}}, 100000)
	rules[77].Conds = conds
	rules[99999].Action = record.Log
	p := policy.Policy{Rules: rules}
	x := record.Record{Arch: record.Arch}
	if all, counts := Speaks(p, x); len(all) != 100000 || all[99999] != 99999 || counts != 99999 || Says(p, x) != record.Log {
		t.Errorf("of very many rules %d match, and %d counts", len(all), counts)
	}
	conds[99999].Arg = math.MaxInt
	if all, counts := Speaks(p, x); len(all) != 99999 || all[77] != 78 || counts != 99999 {
		t.Errorf("of very many rules but one %d match, and %d counts", len(all), counts)
	}
	if l := slices.Repeat([]policy.Policy{{Default: record.Allow}}, 100000); All(l, x) != record.Allow {
		t.Error("very many policies that allow")
	}
}
