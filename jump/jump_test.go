package jump

import (
	"math"
	"math/rand"
	"slices"
	"sync"
	"testing"

	"pinfold/api"
	"pinfold/insn"
	"pinfold/record"
	"pinfold/vm"
)

// plains is n instructions, each different.
func plains(n int) []Part {
	l := make([]Part, n)
	for i := range l {
		l[i] = Part{Kind: Plain, Insn: insn.Insn{Code: 0x20, Jt: 1, Jf: 2, K: uint32(i)}}
	}
	return l
}

// distant is a part, and names 1 and 2 so many instructions behind it.
func distant(p Part, one, two int) []Part {
	l := []Part{p}
	for i, x := range plains(max(one, two) + 1) {
		if i == one {
			l = append(l, Part{Kind: Here, To: 1})
		}
		if i == two {
			l = append(l, Part{Kind: Here, To: 2})
		}
		l = append(l, x)
	}
	return l
}

func wantParts(t *testing.T, what string, got, want []Part) {
	t.Helper()
	if !slices.Equal(got, want) {
		t.Errorf("%s: %s, want %s", what, told(got), told(want))
	}
}

// wantMake wants code of parts to begin with some instructions.
func wantMake(t *testing.T, l []Part, want ...insn.Insn) {
	t.Helper()
	code, e := Make(l)
	if e != api.OK || len(code) < len(want) || !slices.Equal(code[:len(want)], want) {
		t.Errorf("Make of %s: %v, %d, want %v first", told(l), code, e, want)
	}
}

// wantNot wants an error, and no code beside it.
func wantNot(t *testing.T, l []Part, want api.Errno) {
	t.Helper()
	if code, e := Make(l); e != want || len(code) != 0 {
		t.Errorf("Make of %d parts: %v, %d, want %d", len(l), code, e, want)
	}
}

// wantTidy wants parts, as text, to become others.
func wantTidy(t *testing.T, l, want string) {
	t.Helper()
	wantParts(t, "Tidy of "+l, Tidy(parts(l)), parts(want))
}

// The types: the kinds' numbers.
func TestKinds(t *testing.T) {
	if Here != 1 || Plain != 2 || If != 3 || Goto != 4 {
		t.Errorf("kinds %d, %d, %d, %d", Here, Plain, If, Goto)
	}
}

// The document's example: a Goto to what comes next.
func TestExample(t *testing.T) {
	var b Builder
	n := b.New()
	b.Goto(n)
	b.Here(n)
	if l := Tidy(b.Parts()); len(l) != 0 {
		t.Errorf("Tidy: %s", told(l))
	}
	wantMake(t, b.Parts(), insn.Insn{Code: 0x05})
}

// P13.1: names are 1, 2, and so on, whatever else was done, of each builder on its own.
func TestNew(t *testing.T) {
	var b, other Builder
	for want := range Name(1000) {
		if n := b.New(); n != want+1 {
			t.Fatalf("New: %d, want %d", n, want+1)
		}
		b.Here(want + 7)
		b.Goto(want + 100)
		b.If(insn.Jeq, 0, -1, 2*want)
		b.Plain(insn.Return(1))
		b.Parts()
	}
	if n := other.New(); n != 1 {
		t.Errorf("New of another: %d", n)
	}
	if l := other.Parts(); len(l) != 0 {
		t.Errorf("New made parts: %s", told(l))
	}
}

// P13.1: each call lays one part, whatever it is given.
func TestLaid(t *testing.T) {
	odd := []Name{0, 1, 2, -1, math.MaxInt, math.MinInt}
	for _, n := range odd {
		var b, c Builder
		b.Here(n)
		wantParts(t, "Here", b.Parts(), []Part{{Kind: 1, To: n}})
		c.Goto(n)
		wantParts(t, "Goto", c.Parts(), []Part{{Kind: 4, To: n}})
		for _, m := range odd {
			var d Builder
			d.If(0x10, 7, n, m)
			wantParts(t, "If", d.Parts(), []Part{{Kind: 3, To: n, Else: m, Insn: insn.Insn{Code: 0x15, K: 7}}})
		}
	}
	for code := range 1 << 16 {
		var b Builder
		i := insn.Insn{Code: uint16(code), Jt: uint8(code), Jf: uint8(code >> 8), K: math.MaxUint32 - uint32(code)}
		b.Plain(i)
		b.If(i.Code, i.K, 3, 4)
		want := []Part{{Kind: 2, Insn: i}, {Kind: 3, To: 3, Else: 4, Insn: insn.Insn{Code: i.Code | 5, K: i.K}}}
		if l := b.Parts(); !slices.Equal(l, want) {
			t.Fatalf("Plain and If of %#x: %s, want %s", code, told(l), told(want))
		}
	}
}

// P13.1: a zero builder has no parts; of others they are all, in their order.
func TestParts(t *testing.T) {
	var b Builder
	wantParts(t, "a zero builder", b.Parts(), nil)
	r := rand.New(rand.NewSource(13))
	var want []Part
	for range 1000 {
		p := chance(r, 9, [5]int{1, 1, 1, 1, 1})[r.Intn(9)]
		switch p.Kind {
		case Here:
			b.Here(p.To)
		case Plain:
			b.Plain(p.Insn)
		case If:
			b.If(p.Insn.Code&^5, p.Insn.K, p.To, p.Else)
		case Goto:
			b.Goto(p.To)
		}
		want = append(want, p)
		if l := b.Parts(); !slices.Equal(l, want) {
			t.Fatalf("parts: %s, want %s", told(l), told(want))
		}
	}
}

// R6: what Parts answered is neither changed by what is laid later, nor kept, its spare room included.
func TestPartsAreNew(t *testing.T) {
	var b Builder
	for n := range Name(100) {
		ahead := b.Parts()
		want := slices.Clone(ahead)
		b.Goto(n)
		wantParts(t, "parts of ahead", ahead, want)
		want = append(want, Part{Kind: Goto, To: n})
		l := b.Parts()
		for i := range l[:cap(l)] {
			l[:cap(l)][i] = Part{Kind: 9}
		}
		wantParts(t, "parts", b.Parts(), want)
		b.Here(n)
		wantParts(t, "parts", b.Parts(), append(want, Part{Kind: Here, To: n}))
	}
}

// R7: a nil builder does nothing.
func TestNil(t *testing.T) {
	var b *Builder
	b.Here(1)
	b.Plain(insn.Return(1))
	b.If(insn.Jeq, 1, 2, 3)
	b.Goto(1)
	if n := b.New(); n != 0 {
		t.Errorf("New: %d", n)
	}
	if l := b.Parts(); len(l) != 0 {
		t.Errorf("Parts: %s", told(l))
	}
}

// P13.2, R5: of no parts there is no code, and names alone are none.
func TestMakeNothing(t *testing.T) {
	for _, l := range [][]Part{nil, {}, parts("1:"), parts("3: 0: -1:")} {
		if code, e := Make(l); e != api.OK || len(code) != 0 {
			t.Errorf("Make of %s: %v, %d", told(l), code, e)
		}
	}
}

// P13.2: an instruction of any code that isn't of the class Jmp stands as it is, known or not.
func TestMakePlain(t *testing.T) {
	for code := range 1 << 16 {
		i := insn.Insn{Code: uint16(code), Jt: 3, Jf: 4, K: uint32(code) * 65537}
		made, e := Make([]Part{{Kind: Plain, To: 8, Else: 9, Insn: i}})
		if code%8 == 5 {
			if e != api.ErrKind || len(made) != 0 {
				t.Fatalf("Make of a Plain of %#x: %v, %d", code, made, e)
			}
		} else if e != api.OK || !slices.Equal(made, []insn.Insn{i}) {
			t.Fatalf("Make of a Plain of %#x: %v, %d", code, made, e)
		}
	}
}

// P13.2: a comparison of any code of the class Jmp stands with its K, and with its own Jt and Jf; a Ja is none.
func TestMakeIf(t *testing.T) {
	for code := range 1 << 16 {
		i := insn.Insn{Code: uint16(code), Jt: 77, Jf: 78, K: uint32(code) * 65537}
		made, e := Make(distant(Part{Kind: If, To: 1, Else: 2, Insn: i}, 2, 1))
		if code%8 != 5 || code == 5 {
			if e != api.ErrKind || len(made) != 0 {
				t.Fatalf("Make of an If of %#x: %v, %d", code, made, e)
			}
			continue
		}
		i.Jt, i.Jf = 2, 1
		if e != api.OK || len(made) != 4 || made[0] != i {
			t.Fatalf("Make of an If of %#x: %v, %d, want %v first", code, made, e, i)
		}
	}
}

// P13.2: ErrKind of a kind that there isn't.
func TestMakeKinds(t *testing.T) {
	for k := range 256 {
		made, e := Make([]Part{{Kind: Kind(k), To: 1, Else: 1, Insn: insn.Insn{Code: 0x15}}, {Kind: Here, To: 1}})
		want := api.ErrKind // of a Plain, too
		if Kind(k) == Here {
			want = api.ErrTwice
		} else if Kind(k) == If || Kind(k) == Goto {
			want = api.OK
		}
		if e != want || e != api.OK && len(made) != 0 {
			t.Errorf("Make of kind %d: %v, %d, want %d", k, made, e, want)
		}
	}
}

// P13.2: a Skip for each Goto, however far.
func TestMakeGoto(t *testing.T) {
	for _, far := range []int{0, 1, 2, 252, 253, 254, 255, 256, 257, 1000, 4094} {
		wantMake(t, distant(Part{Kind: Goto, To: 1}, far, 0), insn.Insn{Code: 0x05, K: uint32(far)})
		code, _ := Make(distant(Part{Kind: Goto, To: 1}, far, 0))
		if len(code) != far+2 {
			t.Errorf("Make of a Goto by %d: %d instructions", far, len(code))
		}
	}
	wantMake(t, parts("g1 p1 p2 1:"), insn.Insn{Code: 0x05, K: 2}, insn.Insn{Code: 0x20, K: 1}, insn.Insn{Code: 0x20, K: 2}) // beyond the last
}

// P13.2: a comparison jumps by itself 253 far, and further by a Skip. To goes over Else's Skip, Else over To's, but that doesn't count for Else.
func TestMakeFar(t *testing.T) {
	jump := func(jt, jf uint8) insn.Insn { return insn.Insn{Code: 0x15, Jt: jt, Jf: jf, K: 5} }
	skip := func(n uint32) insn.Insn { return insn.Insn{Code: 0x05, K: n} }
	for _, x := range []struct {
		to, other int
		want      []insn.Insn
	}{
		{0, 0, []insn.Insn{jump(0, 0)}},
		{1, 0, []insn.Insn{jump(1, 0)}},
		{0, 1, []insn.Insn{jump(0, 1)}},
		{252, 253, []insn.Insn{jump(252, 253)}},
		{253, 253, []insn.Insn{jump(253, 253)}},
		{254, 0, []insn.Insn{jump(0, 1), skip(254)}},
		{255, 1, []insn.Insn{jump(0, 2), skip(255)}},
		{254, 252, []insn.Insn{jump(0, 253), skip(254)}},
		{254, 253, []insn.Insn{jump(0, 254), skip(254)}},
		{4000, 253, []insn.Insn{jump(0, 254), skip(4000)}},
		{0, 254, []insn.Insn{jump(1, 0), skip(254)}},
		{1, 255, []insn.Insn{jump(2, 0), skip(255)}},
		{252, 254, []insn.Insn{jump(253, 0), skip(254)}},
		{252, 4000, []insn.Insn{jump(253, 0), skip(4000)}},
		{253, 254, []insn.Insn{jump(0, 1), skip(254), skip(254)}},
		{254, 254, []insn.Insn{jump(0, 1), skip(255), skip(254)}},
		{256, 255, []insn.Insn{jump(0, 1), skip(257), skip(255)}},
		{300, 4000, []insn.Insn{jump(0, 1), skip(301), skip(4000)}},
		{4000, 300, []insn.Insn{jump(0, 1), skip(4001), skip(300)}},
	} {
		l := distant(parts("i1,2")[0], x.to, x.other)
		wantMake(t, l, x.want...)
		if code, _ := Make(l); len(code) != len(x.want)+max(x.to, x.other)+1 {
			t.Errorf("to %d, else %d: %d instructions", x.to, x.other, len(code))
		}
	}
}

// P13.2: Skips of comparisons count for what jumps over these.
func TestMakeOver(t *testing.T) {
	l := slices.Concat(parts("i3,4 g3 i1,1 3: p1 4:"), plains(254), parts("1:"))
	jump := func(jt, jf uint8) insn.Insn { return insn.Insn{Code: 0x15, Jt: jt, Jf: jf, K: 5} }
	skip := func(n uint32) insn.Insn { return insn.Insn{Code: 0x05, K: n} }
	wantMake(t, l, jump(4, 5), skip(3), jump(0, 1), skip(256), skip(255), insn.Insn{Code: 0x20, K: 1})
}

// P13.2: ErrTwice of a name that is Here twice, whether anybody goes to it or not.
func TestMakeTwice(t *testing.T) {
	for _, s := range []string{"1: 1:", "1: p1 1:", "2: 1: 2: r1", "i1,1 1: 1: 1:", "0: 1: 2: 0:", "-1: -1:"} {
		wantNot(t, parts(s), api.ErrTwice)
	}
	wantMake(t, parts("1: 2: -1: 0: p1"), insn.Insn{Code: 0x20, K: 1})
}

// P13.2: ErrJump of a name that isn't Here behind.
func TestMakeJump(t *testing.T) {
	for _, s := range []string{
		"g1", "1: g1", "1: p1 g1", "p1 2: g1 3:", "2: g1", "g0", "g-1 1:",
		"i1,2", "i1,2 1:", "i1,2 2:", "2: i1,2 1:", "1: i1,2 2:", "1: i1,1", "i0,0 1:", "1: 2: i1,2",
	} {
		wantNot(t, parts(s), api.ErrJump)
	}
	wantNot(t, []Part{{Kind: Goto, To: 1, Else: 2}, {Kind: Here, To: 2, Else: 1}}, api.ErrJump)
	wantMake(t, []Part{{Kind: Goto, To: 1, Else: 2}, {Kind: Here, To: 1, Else: 2}}, insn.Insn{Code: 0x05})
	wantMake(t, parts("g0 i-1,0 -1: 0:"), insn.Insn{Code: 0x05, K: 1}, insn.Insn{Code: 0x15, K: 5})
}

// P13.2: 4096 instructions may be, Skips behind comparisons reckoned, not one more.
func TestMakeMany(t *testing.T) {
	many := func(n int) []Part { return slices.Concat(plains(n), parts("1:")) }
	for _, x := range []struct {
		first string
		n     int
	}{
		{"", 4096}, {"p1", 4095}, {"g1", 4095}, {"i1,2 2:", 4094}, {"i2,1 2:", 4094}, {"i1,1", 4093}, {"3: p1 4: 5:", 4095}, {"i2,2 2:", 4095},
	} {
		l := slices.Concat(parts(x.first), many(x.n))
		if code, e := Make(l); e != api.OK || len(code) != 4096 {
			t.Errorf("%q and %d: %d instructions, %d", x.first, x.n, len(code), e)
		}
		wantNot(t, slices.Concat(parts(x.first), many(x.n+1)), api.ErrMany)
	}
	names := make([]Part, 10000)
	for i := range names {
		names[i] = Part{Kind: Here, To: Name(i)}
	}
	if code, e := Make(append(names, plains(4096)...)); e != api.OK || len(code) != 4096 {
		t.Errorf("with many names: %d instructions, %d", len(code), e)
	}
}

// P13.2, R2: part by part, the last first; of one part the errors in the order in which they are named.
func TestMakeOrder(t *testing.T) {
	bad := []Part{{}}
	many := plains(4097)
	for _, x := range []struct {
		l    []Part
		want api.Errno
	}{
		{parts("g9 1: 1:"), api.ErrTwice},
		{parts("1: g9 1:"), api.ErrJump},
		{parts("1: 1: g9"), api.ErrJump},
		{slices.Concat(bad, parts("1: 1:")), api.ErrTwice},
		{slices.Concat(parts("1: 1:"), bad), api.ErrKind},
		{slices.Concat(parts("g9"), bad), api.ErrKind},
		{slices.Concat(bad, parts("g9")), api.ErrJump},
		{slices.Concat(bad, many), api.ErrMany},
		{slices.Concat(many, bad), api.ErrKind},
		{slices.Concat(parts("1: 1:"), many), api.ErrMany},
		{slices.Concat(many, parts("1: 1:")), api.ErrTwice},
		{slices.Concat(parts("g9"), many), api.ErrMany},
		{slices.Concat(many, parts("g9")), api.ErrJump},
		{slices.Concat(many[1:], bad), api.ErrKind},
		{slices.Concat(bad, many[1:]), api.ErrKind},
		{slices.Concat(parts("g9"), many[1:]), api.ErrJump},
		{slices.Concat(parts("i9,9"), many[1:]), api.ErrJump},
		{slices.Concat(parts("1: 1:"), many[1:]), api.ErrTwice},
		{[]Part{{Kind: If, To: 9, Else: 9, Insn: insn.Insn{Code: 0x05}}}, api.ErrKind},
		{slices.Concat([]Part{{Kind: If, To: 9, Else: 9}}, many[1:]), api.ErrKind},
		{slices.Concat([]Part{{Kind: Plain, Insn: insn.Insn{Code: 0x05}}}, many[1:]), api.ErrKind},
	} {
		wantNot(t, x.l, x.want)
	}
}

// P13.2: what the builder put together does in the machine what was said.
func TestMakeRuns(t *testing.T) {
	var b Builder
	yes, no, end := b.New(), b.New(), b.New()
	b.Plain(insn.Load(record.AtNumber))
	b.If(insn.Jge, 100, yes, no)
	b.Here(no)
	for range 300 {
		b.Plain(insn.Insn{Code: insn.Alu | insn.Add | insn.K, K: 1})
	}
	b.Goto(end)
	b.Here(yes)
	b.Plain(insn.Mask(0xf))
	b.Here(end)
	b.Plain(insn.Insn{Code: insn.Ret | insn.A})
	for _, l := range [][]Part{b.Parts(), Tidy(b.Parts())} {
		code, e := Make(l)
		f, w := vm.Load(code)
		if e != api.OK || w.Err != api.OK {
			t.Fatalf("Make: %d; Load: %+v", e, w)
		}
		for n := range uint32(200) {
			want := n + 300
			if n >= 100 {
				want = n % 16
			}
			if a, _ := f.Run(record.Record{Number: n}); uint32(a) != want {
				t.Fatalf("of %d: %d, want %d", n, a, want)
			}
		}
	}
}

// P13.2: a way to a place at which a Goto stands goes where that goes, behind names, and as often as it has to.
func TestTidyLeads(t *testing.T) {
	wantTidy(t, "i1,2 p0 1: g3 2: p1 3: r1", "i3,2 p0 g3 2: p1 3: r1")
	wantTidy(t, "i2,1 p0 1: g3 2: p1 3: r1", "i2,3 p0 g3 2: p1 3: r1")
	wantTidy(t, "i2,1 r0 1: g3 2: p1 3: r1", "i2,3 r0 2: p1 3: r1")
	wantTidy(t, "i1,1 r0 1: g3 2: p1 3: r1", "i3,3 r0 3: r1")
	wantTidy(t, "i4,2 r0 4: 1: 5: g3 2: p1 3: r1", "i3,2 r0 2: p1 3: r1")
	wantTidy(t, "i9,1 9: p1 g1 1: p2 g2 5: p3 2: g3 6: p4 3: p5", "i9,1 9: p1 1: p2 p5")
	wantTidy(t, "i9,5 9: p1 g1 5: p2 i1,1 1: g2 8: p3 2: g3 7: p4 3: g4 6: p5 4: p6", "i9,5 9: p1 g4 5: p2 i4,4 4: p6")
	wantTidy(t, "i1,2 1: p1 g3 2: p2 3: r1", "i1,2 1: p1 g3 2: p2 3: r1") // none stands at 1
	wantTidy(t, "i1,2 1: r1 g3 2: p2 3: r3", "i1,2 1: r1 2: p2 r3")
	wantTidy(t, "i1,2 1: i3,3 g3 2: p2 3: r1", "i1,2 1: i3,3 g3 2: p2 3: r1")
	wantTidy(t, "i1,2 1: g2 2: r1", "i2,2 2: r1") // ahead of the Goto's going
}

// P13.2: no name to which nobody goes, who goes being told by Ifs and Gotos alone.
func TestTidyNames(t *testing.T) {
	wantTidy(t, "1: p1 2: 3: p2 4:", "p1 p2")
	wantTidy(t, "1:", "")
	wantTidy(t, "i2,2 1: p1 2: 3: p2", "i2,2 p1 2: p2")
	wantTidy(t, "i1,3 p1 1: 2: p2 3:", "i1,3 p1 1: p2 3:")
	wantTidy(t, "-1: 0: p1", "p1")
	l := []Part{{Kind: Plain, To: 1, Else: 2}, {Kind: Here, To: 3, Else: 1}, {Kind: 9, To: 1, Else: 2}, {To: 1, Else: 2}, {Kind: Goto, To: 4, Else: 2}, {Kind: Here, To: 1, Else: 2}, {Kind: Here, To: 2}, {Kind: Plain}, {Kind: Here, To: 4}}
	wantParts(t, "Tidy", Tidy(l), []Part{l[0], l[2], l[3]})
	l = []Part{{Kind: If, To: 1, Else: 1}, {Kind: 9, To: 2, Else: 2}, {Kind: Here, To: 2, Else: 1}, {Kind: Here, To: 1, Else: 2}}
	wantParts(t, "Tidy", Tidy(l), []Part{l[0], l[1], l[3]})
}

// P13.2: no Goto to a name that comes next, wherever among the names that do.
func TestTidyNext(t *testing.T) {
	wantTidy(t, "p1 g1 1: p2", "p1 p2")
	wantTidy(t, "i1,2 p1 g1 2: 1: p2", "i1,2 p1 2: 1: p2")
	wantTidy(t, "i1,2 p1 g2 2: 1: p2", "i1,2 p1 2: 1: p2")
	wantTidy(t, "i3,2 p1 g1 2: 3: 1:", "i3,2 p1 2: 3:")
	wantTidy(t, "p1 g1 p2 g2 1: 2: p3", "p1 p3")
	wantTidy(t, "i2,2 g1 2: p1 1: p2", "i2,2 g1 2: p1 1: p2")
	wantTidy(t, "i1,1 1: p1", "i1,1 1: p1") // an If is no Goto
	wantTidy(t, "i2,2 g1 2:", "i2,2 g1 2:") // it comes nowhere
	wantTidy(t, "g1", "g1")
}

// P13.2: nothing behind a Goto or a Ret up to the next name to which somebody goes.
func TestTidyDead(t *testing.T) {
	wantTidy(t, "r1 p1 r2", "r1")
	wantTidy(t, "r1 1: p1 2: i3,3 3: p2", "r1")
	wantTidy(t, "i1,1 r1 p1 1: p2 r2 p3", "i1,1 r1 1: p2 r2")
	wantTidy(t, "i2,3 2: p0 g1 p1 3: p2 1: p3", "i2,3 2: p0 g1 3: p2 1: p3")
	wantTidy(t, "r1 g1 p1 1: i2,3 p2 2: g3 3: r2", "r1")
	wantTidy(t, "i1,3 1: r1 g2 2: i4,4 3: p1 4: p2", "i1,3 1: r1 3: p1 p2")
	wantTidy(t, "i1,1 p1 1: p2", "i1,1 p1 1: p2") // an If is neither
	wantTidy(t, "i1,2 1: g3 2: p1 3: r1", "i3,2 g3 2: p1 3: r1")
	ends := func(code uint16) []Part { return []Part{{Kind: Plain, Insn: insn.Insn{Code: code}}, {Kind: 9}} }
	for code := range 1 << 16 {
		want := 2
		if code%8 == 6 {
			want = 1
		}
		if l := Tidy(ends(uint16(code))); len(l) != want {
			t.Fatalf("Tidy behind %#x: %s", code, told(l))
		}
	}
	l := []Part{{Kind: 9, Insn: insn.Insn{Code: 6}}, {Kind: If, To: 1, Else: 1, Insn: insn.Insn{Code: 6}}, {Kind: Here, To: 1, Insn: insn.Insn{Code: 6}}, {Kind: Plain}}
	wantParts(t, "Tidy behind what is no Ret", Tidy(l), l)
}

// P13.2: parts that are kept are kept whole.
func TestTidyKeeps(t *testing.T) {
	i := insn.Insn{Code: 0x15, Jt: 3, Jf: 4, K: 5}
	l := []Part{{Kind: If, To: 1, Else: 1, Insn: i}, {Kind: Plain, To: 7, Else: 8, Insn: i}, {Kind: Here, To: 1, Else: 9, Insn: i}, {Kind: 0, To: 1, Else: 2, Insn: i}}
	wantParts(t, "Tidy", Tidy(l), l)
	wantParts(t, "Tidy", Tidy(nil), nil)
	wantParts(t, "Tidy", Tidy([]Part{}), nil)
}

// P1: what can't be tidied ends too: circles, ways back, names that are Here twice or nowhere.
func TestTidyEnds(t *testing.T) {
	for _, s := range []string{"1: g1", "i1,1 1: g2 2: g1", "g3 1: g2 2: g3 3: g1", "i9,9 9: 1: g2 p1 3: g4 p2 2: g3 4: g1", "i1,1 1: g1 1: g2 2: g1", "g1 i2,3"} {
		if l := parts(s); len(Tidy(l)) > len(l) {
			t.Errorf("Tidy of %s: %s", s, told(Tidy(l)))
		}
	}
	for _, n := range []Name{1000, 1001} {
		var circle, back []Part
		for i := range n {
			circle = append(circle, Part{Kind: If, To: i, Else: n - i}, Part{Kind: Here, To: i}, Part{Kind: Goto, To: (i*7 + 3) % n})
			back = append(back, Part{Kind: Here, To: i}, Part{Kind: If, To: i - 1, Else: i - 1}, Part{Kind: Goto, To: i - 1})
		}
		if len(Tidy(circle)) > len(circle) || len(Tidy(back)) > len(back) {
			t.Error("Tidy made more")
		}
	}
}

// P13.2, P1: long ways are followed to their ends, and long lists of parts nobody comes to are left out.
func TestTidyLong(t *testing.T) {
	const n = Name(100000)
	chain, dead := parts("i1,0 0: p1"), parts("r1")
	for i := Name(1); i < n; i++ {
		chain = append(chain, Part{Kind: Here, To: i}, Part{Kind: Goto, To: i + 1}, Part{Kind: Plain})
		dead = append(dead, Part{Kind: If, To: i, Else: i}, Part{Kind: Plain}, Part{Kind: Here, To: i})
	}
	chain = append(chain, Part{Kind: Here, To: n}, Part{Kind: Plain})
	wantParts(t, "a long chain", Tidy(chain), slices.Concat([]Part{{Kind: If, To: n, Insn: insn.Insn{Code: 0x15, K: 5}}}, parts("0: p1"), chain[len(chain)-2:]))
	wantParts(t, "what nobody comes to", Tidy(dead), parts("r1"))
}

// R6: what is handed in is neither changed nor kept, its spare room included.
func TestHandedIn(t *testing.T) {
	for _, s := range []string{"", "p1", "p1 r2", "i1,2 1: g3 2: p1 3: r1 p4", "g1 1:", "i1,1 p1 1:"} {
		for spare := range 3 {
			room := append(parts(s), parts("p7 p8 p9")...)
			want := slices.Clone(room)
			l := room[: len(room)-3 : len(room)-spare]
			code, _ := Make(l)
			tidy := Tidy(l)
			wantParts(t, "handed in", room, want)
			made, left := slices.Clone(code), slices.Clone(tidy)
			for i := range room {
				room[i] = Part{Kind: 9}
			}
			if wantParts(t, "Tidy, later", tidy, left); !slices.Equal(code, made) {
				t.Errorf("Make of %s, later: %v, want %v", s, code, made)
			}
			copy(room, want)
			for i := range tidy[:cap(tidy)] {
				tidy[:cap(tidy)][i] = Part{Kind: 8}
			}
			wantParts(t, "handed in, later", room, want)
		}
	}
}

// R8: many at once get what one gets.
func TestManyAtOnce(t *testing.T) {
	l := chance(rand.New(rand.NewSource(8)), 1000, [5]int{4, 3, 1, 2, 2})
	code, e := Make(l)
	tidy := Tidy(l)
	var w sync.WaitGroup
	for range 8 {
		w.Go(func() {
			for range 20 {
				c, f := Make(l)
				if !slices.Equal(c, code) || f != e || !slices.Equal(Tidy(l), tidy) {
					t.Error("another answer")
				}
			}
		})
	}
	w.Wait()
}
