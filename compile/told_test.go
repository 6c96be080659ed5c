package compile

import (
	"math/big"
	"math/rand"
	"slices"
	"testing"

	"pinfold/api"
	"pinfold/check"
	"pinfold/insn"
	"pinfold/jump"
	"pinfold/mean"
	"pinfold/names"
	"pinfold/policy"
	"pinfold/record"
	"pinfold/vm"
)

// toldPeep: a load by Abs goes if some part ahead of it is one of the same place, and none between the two is a Plain or a Here.
func toldPeep(l []jump.Part) []jump.Part {
	load := func(p jump.Part) bool { return p.Kind == 2 && p.Insn.Code == 0x20 }
	var left []jump.Part
	for i, p := range l {
		goes := false
		for j, q := range l[:i] {
			clear := !slices.ContainsFunc(l[j+1:i], func(x jump.Part) bool { return x.Kind == 1 || x.Kind == 2 })
			goes = goes || load(p) && load(q) && p.Insn.K == q.Insn.K && clear
		}
		if !goes {
			left = append(left, p)
		}
	}
	return left
}

// toldHolds: does a condition hold of a number? Numbers are held against each other as numbers without an end.
func toldHolds(c policy.Cond, n uint64) bool {
	order := new(big.Int).SetUint64(n).Cmp(new(big.Int).SetUint64(c.Value))
	switch c.Op {
	case 1:
		return order == 0
	case 2:
		return order != 0
	case 3:
		return order < 0
	case 4:
		return order <= 0
	case 5:
		return order > 0
	case 6:
		return order >= 0
	}
	for bit := range 64 {
		if c.Mask>>bit&1 == 1 && n>>bit&1 != c.Value>>bit&1 {
			return false
		}
	}
	return true
}

// toldSays: what a policy that may be says of a call: the first rule that matches of the strongest kind, the kinds being asked for one by one.
func toldSays(p policy.Policy, r record.Record) record.Action {
	if r.Arch != 0xc000003e {
		return 0x80000000
	}
	for _, kind := range []record.Action{0x8000, 0x0005, 0x7ffc, 0x7fff} {
		for _, x := range p.Rules {
			holds := x.Number == r.Number && x.Action>>16 == kind
			for _, c := range x.Conds {
				holds = holds && toldHolds(c, r.Args[c.Arg])
			}
			if holds {
				return x.Action
			}
		}
	}
	return p.Default
}

// toldMost: the steps that chapter 15 gives a record's run.
func toldMost(p policy.Policy, r record.Record) int {
	most := 20
	for _, x := range p.Rules {
		if x.Number == r.Number {
			most += 2 + 10*len(x.Conds)
		}
	}
	return most
}

// toldEdges: the records, written as the chapter tells them; each argument that there isn't is left out.
func toldEdges(p policy.Policy) []record.Record {
	l := []record.Record{{Arch: 0xc000003e}, {Arch: 0xc000003f}}
	number := func(n *big.Int) uint64 {
		return n.Mod(n, new(big.Int).Lsh(big.NewInt(1), 64)).Uint64()
	}
	for _, x := range p.Rules {
		one := record.Record{Number: x.Number, Arch: 0xc000003e}
		for arg := range 6 {
			for _, c := range slices.Backward(x.Conds) {
				if c.Arg == arg {
					one.Args[arg] = c.Value
					break
				}
			}
		}
		l = append(l, one)
		for _, c := range x.Conds {
			if !slices.Contains([]int{0, 1, 2, 3, 4, 5}, c.Arg) {
				continue
			}
			value := func() *big.Int { return new(big.Int).SetUint64(c.Value) }
			all := value()
			for bit := range 64 {
				if c.Mask>>bit&1 == 0 {
					all.SetBit(all, bit, 1)
				}
			}
			turned := value()
			turned.SetBit(turned, 32, 1-turned.Bit(32))
			for _, n := range []*big.Int{value().Sub(value(), big.NewInt(1)), value().Add(value(), big.NewInt(1)), turned, all, new(big.Int)} {
				r := one
				r.Args[c.Arg] = number(n)
				l = append(l, r)
			}
		}
	}
	return l
}

// oneOf picks one of a few.
func oneOf[T any](r *rand.Rand, few ...T) T { return few[r.Intn(len(few))] }

// table is the table of calls by which policies are checked.
var table = names.New()

// call is a call of a number, with arguments.
func call(number uint32, args ...uint64) record.Record {
	r := record.Record{Number: number, Arch: record.Arch}
	copy(r.Args[:], args)
	return r
}

// foreign is a call of another machine.
func foreign(r record.Record, arch uint32) record.Record {
	r.Arch = arch
	return r
}

// load is a part that loads a place.
func load(at uint32) jump.Part { return plain(insn.Load(at)) }

// plain is a part that is an instruction.
func plain(i insn.Insn) jump.Part { return jump.Part{Kind: jump.Plain, Insn: i} }

// here is a part that gives a name.
func here(n jump.Name) jump.Part { return jump.Part{Kind: jump.Here, To: n} }

// goes is a part that goes to a name.
func goes(n jump.Name) jump.Part { return jump.Part{Kind: jump.Goto, To: n} }

// compares is a part that goes to one of two names.
func compares(how uint16, k uint32, to, other jump.Name) jump.Part {
	return jump.Part{Kind: jump.If, To: to, Else: other, Insn: insn.If(how, k, 0, 0)}
}

// halves is halves of numbers at which a comparison turns, or might seem to.
var halves = []uint64{0, 1, 2, 7, 1<<31 - 1, 1 << 31, 1<<32 - 2, 1<<32 - 1}

// chanceNumber: a number of such halves, or any.
func chanceNumber(r *rand.Rand) uint64 {
	if r.Intn(8) == 0 {
		return r.Uint64()
	}
	return oneOf(r, halves...)<<32 | oneOf(r, halves...)
}

// chanceCond: a condition that may be.
func chanceCond(r *rand.Rand) policy.Cond {
	c := policy.Cond{Arg: r.Intn(6), Op: policy.Op(1 + r.Intn(7)), Value: chanceNumber(r)}
	if c.Op == policy.Masked {
		c.Mask = chanceNumber(r) | 1<<r.Intn(64)
		c.Value &= c.Mask
	}
	return c
}

// chancePolicy: a policy that may be, of few calls, mostly.
func chancePolicy(r *rand.Rand) policy.Policy {
	actions := []record.Action{record.Kill, record.Fail(1), record.Fail(13), record.Fail(4095), record.Log, record.Allow}
	p := policy.Policy{Name: "p", Default: oneOf(r, actions...)}
	calls := table.All()
	r.Shuffle(len(calls), func(i, j int) { calls[i], calls[j] = calls[j], calls[i] })
	calls = calls[:oneOf(r, 1, 2, 3, 30)]
	for range oneOf(r, 0, 1, 2, 5, 20, 64) {
		x := policy.Rule{Number: oneOf(r, calls...).Number, Action: oneOf(r, actions...)}
		for range oneOf(r, 0, 1, 1, 2, 3, 6) {
			x.Conds = append(x.Conds, chanceCond(r))
		}
		p.Rules = append(p.Rules, x)
	}
	return p
}

// chanceRecord: a call, mostly with numbers near those of one of a policy's rules.
func chanceRecord(r *rand.Rand, p policy.Policy) record.Record {
	x := call(oneOf(r, table.All()...).Number)
	x.At = r.Uint64()
	for i := range x.Args {
		x.Args[i] = chanceNumber(r)
	}
	if len(p.Rules) > 0 && r.Intn(8) > 0 {
		rule := oneOf(r, p.Rules...)
		x.Number = rule.Number
		for _, c := range rule.Conds {
			x.Args[c.Arg] = c.Value + oneOf[uint64](r, 0, 0, 0, 1, 1<<64-1, 1<<32, 1<<r.Intn(64))
		}
	}
	if r.Intn(20) == 0 {
		x.Number += uint32(r.Intn(3)) - 1
	}
	if r.Intn(20) == 0 {
		x.Arch ^= 1 << r.Intn(32)
	}
	return x
}

// filter is a policy's filter.
func filter(t *testing.T, p policy.Policy) *vm.Filter {
	t.Helper()
	f, e := Filter(p, table)
	if e != api.OK || f == nil {
		t.Fatalf("%+v: %v, %d", p, f, e)
	}
	return f
}

// wantSaid wants a filter to say of calls what a policy says, in no more steps than it may take.
func wantSaid(t *testing.T, p policy.Policy, f *vm.Filter, l ...record.Record) {
	t.Helper()
	for _, r := range l {
		got, steps := f.Run(r)
		if want := toldSays(p, r); got != want || mean.Says(p, r) != want {
			t.Fatalf("%s of %+v: %#x, want %#x (Says: %#x)", p.Text(table), r, uint32(got), uint32(want), uint32(mean.Says(p, r)))
		}
		if most := toldMost(p, r); steps > most {
			t.Fatalf("%s of %+v: %d steps, want %d at most", p.Text(table), r, steps, most)
		}
	}
}

// wantCompiled wants a policy's instructions to be as few as Plain's at most, to be those of its filter, and to say of calls what it says, as Plain's do.
func wantCompiled(t *testing.T, p policy.Policy, l ...record.Record) *vm.Filter {
	t.Helper()
	most, e := Plain(p, table)
	insns, e2 := Insns(p, table)
	f := filter(t, p)
	if e != api.OK || e2 != api.OK || len(insns) > len(most) || !slices.Equal(f.Insns(), insns) {
		t.Fatalf("%s: %d, %d, of %d instructions %d are left, the filter has %d", p.Text(table), e, e2, len(most), len(insns), f.Len())
	}
	first, w := vm.Load(most)
	if w != (check.Wrong{}) {
		t.Fatalf("%s: %+v", p.Text(table), w)
	}
	for _, r := range l {
		if got, _ := first.Run(r); got != toldSays(p, r) {
			t.Fatalf("%s: Plain's says %#x of %+v", p.Text(table), uint32(got), r)
		}
	}
	wantSaid(t, p, f, l...)
	return f
}

// P15.1, P15.2, P3: policies and calls by chance, and the calls that Edges tells.
func TestChance(t *testing.T) {
	r := rand.New(rand.NewSource(15))
	said := map[string]int{}
	for range 2500 {
		p := chancePolicy(r)
		if e := p.Check(table); e != api.OK {
			t.Fatal(e)
		}
		edges := Edges(p)
		if want := toldEdges(p); !slices.Equal(edges, want) {
			t.Fatalf("%s: %+v, want %+v", p.Text(table), edges, want)
		}
		l := edges
		for range 12 {
			l = append(l, chanceRecord(r, p))
		}
		f := wantCompiled(t, p, l...)
		if x, ok := Difference(p, f, l); ok || x != (record.Record{}) {
			t.Fatalf("%s: differs at %+v", p.Text(table), x)
		}
		for _, x := range l {
			switch {
			case x.Arch != record.Arch:
				said["foreign"]++
			case toldSays(p, x) == p.Default:
				said["default"]++
			default:
				said["rule"]++
			}
		}
	}
	if said["foreign"] < 1000 || said["default"] < 5000 || said["rule"] < 5000 {
		t.Errorf("said: %v", said)
	}
}

// chanceParts: parts whose names are each Here once, behind those that go to them; at the end a Ret.
func chanceParts(r *rand.Rand) []jump.Part {
	n := 1 + r.Intn(6)
	l := []jump.Part{plain(insn.Return(99))}
	for name := range n {
		l = append(l, here(jump.Name(name+1)))
		to := func() jump.Name { return jump.Name(1 + r.Intn(name+1)) }
		for range r.Intn(5) {
			l = append(l, oneOf(r, load(4), load(4), load(4), load(0), load(16), plain(insn.Mask(uint32(r.Intn(4)))), plain(insn.Return(uint32(r.Intn(4)))), goes(to()), goes(to()), compares(insn.Jeq, 1, to(), to()), compares(insn.Jgt, 1, to(), to())))
		}
	}
	slices.Reverse(l)
	return l
}

// P15.1: what Peep leaves of parts by chance, tidied or not, does the same in no more steps, and is what the chapter's words tell; it leaves nothing to be left out any more.
func TestPeepByChance(t *testing.T) {
	r := rand.New(rand.NewSource(1))
	less := 0
	for range 20000 {
		l := chanceParts(r)
		if r.Intn(2) == 0 {
			l = jump.Tidy(l)
		}
		left := Peep(l)
		if !slices.Equal(left, toldPeep(l)) || !slices.Equal(Peep(left), left) {
			t.Fatalf("%+v: %+v", l, left)
		}
		if len(left) < len(l) {
			less++
		}
		wantSame(t, made(t, left), made(t, l))
		wantSame(t, fewest(t, l), made(t, l))
	}
	if less < 1000 {
		t.Errorf("something was left out %d times", less)
	}
}

// made is the instructions of parts.
func made(t *testing.T, l []jump.Part) []insn.Insn {
	t.Helper()
	insns, e := jump.Make(l)
	if e != api.OK {
		t.Fatalf("%+v: %d", l, e)
	}
	return insns
}

// fewest is the instructions of parts, tidied or not.
func fewest(t *testing.T, l []jump.Part) []insn.Insn {
	t.Helper()
	insns, e := least(l)
	if e != api.OK {
		t.Fatalf("%+v: %d", l, e)
	}
	return insns
}

// wantSame wants instructions to be no more than others, and to say of calls the same in no more steps.
func wantSame(t *testing.T, got, than []insn.Insn) {
	t.Helper()
	f, w := vm.Load(got)
	g, w2 := vm.Load(than)
	if w != (check.Wrong{}) || w2 != (check.Wrong{}) || len(got) > len(than) {
		t.Fatalf("%v, %v, %d instructions of %d", w, w2, len(got), len(than))
	}
	for _, n := range []uint32{0, 1, 2, 3} {
		for _, m := range []uint64{0, 1, 2, 3} {
			r := record.Record{Number: n, Arch: 3 - n, Args: [6]uint64{m}}
			a, steps := f.Run(r)
			b, most := g.Run(r)
			if a != b || steps > most {
				t.Fatalf("%v: %d in %d steps; %v: %d in %d", got, a, steps, than, b, most)
			}
		}
	}
}
