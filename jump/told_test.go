package jump

import (
	"fmt"
	"math/rand"
	"slices"
	"strconv"
	"strings"
	"testing"

	"pinfold/api"
	"pinfold/insn"
)

// parts reads a list of parts: 1: is a Here, p5 an instruction, r5 a Ret, i1,2 an If, g1 a Goto.
func parts(s string) []Part {
	number := func(s string) int {
		n, err := strconv.Atoi(s)
		if err != nil {
			panic(err)
		}
		return n
	}
	var l []Part
	for _, w := range strings.Fields(s) {
		p := Part{}
		switch {
		case strings.HasSuffix(w, ":"):
			p = Part{Kind: Here, To: Name(number(strings.TrimSuffix(w, ":")))}
		case w[0] == 'p':
			p = Part{Kind: Plain, Insn: insn.Insn{Code: 0x20, K: uint32(number(w[1:]))}}
		case w[0] == 'r':
			p = Part{Kind: Plain, Insn: insn.Insn{Code: 0x06, K: uint32(number(w[1:]))}}
		case w[0] == 'i':
			to, other, _ := strings.Cut(w[1:], ",")
			p = Part{Kind: If, To: Name(number(to)), Else: Name(number(other)), Insn: insn.Insn{Code: 0x15, K: 5}}
		case w[0] == 'g':
			p = Part{Kind: Goto, To: Name(number(w[1:]))}
		default:
			panic(w)
		}
		l = append(l, p)
	}
	return l
}

// told is parts as text, each whole, where it isn't as parts reads it.
func told(l []Part) string {
	var words []string
	for _, p := range l {
		w := ""
		switch p.Kind {
		case Here:
			w = fmt.Sprintf("%d:", p.To)
		case Plain:
			w = fmt.Sprintf("p%d", p.Insn.K)
			if p.Insn.Code == 0x06 {
				w = fmt.Sprintf("r%d", p.Insn.K)
			}
		case If:
			w = fmt.Sprintf("i%d,%d", p.To, p.Else)
		case Goto:
			w = fmt.Sprintf("g%d", p.To)
		}
		if w == "" || parts(w)[0] != p {
			w = fmt.Sprintf("%+v", p)
		}
		words = append(words, w)
	}
	return strings.Join(words, " ")
}

// toldPlace: where among parts a name is Here; -1, if nowhere.
func toldPlace(l []Part, n Name) int {
	return slices.IndexFunc(l, func(p Part) bool { return p.Kind == Here && p.To == n })
}

// toldSizes: how many instructions each part has: one first, and then as many more as places that are reckoned with these want, till none wants more.
func toldSizes(l []Part) (sizes, places []int) {
	sizes = make([]int, len(l))
	for {
		places = []int{0}
		for i, n := range sizes {
			places = append(places, places[i]+n)
		}
		more := slices.Clone(sizes)
		for i, p := range l {
			switch p.Kind {
			case Plain, Goto:
				more[i] = 1
			case If:
				toSkip, otherSkip := toldFar(l, places, i)
				more[i] = 1 + toSkip + otherSkip
			}
		}
		if slices.Equal(more, sizes) {
			return sizes, places
		}
		sizes = more
	}
}

// toldFar: how many Skips To and Else of an If want.
func toldFar(l []Part, places []int, at int) (toSkip, otherSkip int) {
	behind := places[at+1]
	if places[toldPlace(l, l[at].Else)]-behind > 253 {
		otherSkip = 1
	}
	if places[toldPlace(l, l[at].To)]-behind+otherSkip > 253 {
		toSkip = 1
	}
	return toSkip, otherSkip
}

// toldCode: parts without a fault as instructions, from the first on, where it is known already where all stand.
func toldCode(l []Part) []insn.Insn {
	_, places := toldSizes(l)
	var all []insn.Insn
	far := func(n Name) int { return places[toldPlace(l, n)] - len(all) - 1 }
	for at, p := range l {
		switch p.Kind {
		case Plain:
			all = append(all, p.Insn)
		case Goto:
			all = append(all, insn.Insn{Code: 0x05, K: uint32(far(p.To))})
		case If:
			toSkip, otherSkip := toldFar(l, places, at)
			i := insn.Insn{Code: p.Insn.Code, K: p.Insn.K, Jt: uint8(far(p.To)), Jf: uint8(far(p.Else))}
			if toSkip == 1 {
				i.Jt = 0
			}
			if otherSkip == 1 {
				i.Jf = uint8(toSkip)
			}
			all = append(all, i)
			if toSkip == 1 {
				all = append(all, insn.Insn{Code: 0x05, K: uint32(far(p.To))})
			}
			if otherSkip == 1 {
				all = append(all, insn.Insn{Code: 0x05, K: uint32(far(p.Else))})
			}
		}
	}
	return all
}

// toldFault: what is wrong with the first of parts, those behind it being right.
func toldFault(l []Part) api.Errno {
	p, behind := l[0], l[1:]
	class := p.Insn.Code % 8
	switch {
	case p.Kind == Here && toldPlace(behind, p.To) >= 0:
		return 206
	case p.Kind == Plain && class == 5, p.Kind == If && (class != 5 || p.Insn.Code == 5), p.Kind < 1 || p.Kind > 4:
		return 210
	case p.Kind == If && (toldPlace(behind, p.To) < 0 || toldPlace(behind, p.Else) < 0), p.Kind == Goto && toldPlace(behind, p.To) < 0:
		return 207
	case len(toldCode(l)) > 4096:
		return 205
	}
	return 0
}

// toldMake is Make once more, every end of the list looked at whole.
func toldMake(l []Part) ([]insn.Insn, api.Errno) {
	for at := range slices.Backward(l) {
		if e := toldFault(l[at:]); e != 0 {
			return nil, e
		}
	}
	return toldCode(l), 0
}

// toldGoes: how many ways go to a name?
func toldGoes(l []Part, n Name) int {
	all := 0
	for _, p := range l {
		if (p.Kind == If || p.Kind == Goto) && p.To == n {
			all++
		}
		if p.Kind == If && p.Else == n {
			all++
		}
	}
	return all
}

// toldLead: where a Goto goes that stands, behind names, at a name.
func toldLead(l []Part, n Name) (Name, bool) {
	at := toldPlace(l, n)
	if at < 0 {
		return 0, false
	}
	for _, p := range l[at:] {
		if p.Kind != Here {
			return p.To, p.Kind == Goto
		}
	}
	return 0, false
}

// toldStep does one thing of those that Tidy does, in the order in which the chapter names them; false: nothing is left to do.
func toldStep(l []Part) ([]Part, bool) {
	without := func(at int) []Part { return slices.Concat(l[:at], l[at+1:]) }
	for at, p := range l {
		if p.Kind != If && p.Kind != Goto {
			continue
		}
		changed := slices.Clone(l)
		if n, ok := toldLead(l, p.To); ok {
			changed[at].To = n
			return changed, true
		}
		if n, ok := toldLead(l, p.Else); ok && p.Kind == If {
			changed[at].Else = n
			return changed, true
		}
	}
	for at, p := range l {
		if p.Kind == Here && toldGoes(l, p.To) == 0 {
			return without(at), true
		}
	}
	for at, p := range l {
		for i := at + 1; p.Kind == Goto && i < len(l) && l[i].Kind == Here; i++ {
			if l[i].To == p.To {
				return without(at), true
			}
		}
	}
	for at, p := range l {
		if at == 0 || p.Kind == Here {
			continue
		}
		if x := l[at-1]; x.Kind == Goto || x.Kind == Plain && x.Insn.Code%8 == 6 {
			return without(at), true
		}
	}
	return l, false
}

// toldTidy is Tidy once more, one thing at a time. The names of a list have to be Here once, and its ways to go forward.
func toldTidy(l []Part) []Part {
	for more := true; more; {
		l, more = toldStep(l)
	}
	return l
}

// choices says at which comparisons of a run it is so: the first by the lowest bit.
type choices uint64

// next: is it so at the next one?
func (c *choices) next() bool {
	yes := *c&1 == 1
	*c >>= 1
	return yes
}

// ran: which instructions and comparisons a run of parts comes to, up to a Ret or the end.
func ran(l []Part, c choices) []insn.Insn {
	var all []insn.Insn
	for at := 0; at < len(l); {
		p := l[at]
		at++
		switch p.Kind {
		case Plain:
			all = append(all, p.Insn)
			if p.Insn.Code%8 == 6 {
				return all
			}
		case Goto:
			at = toldPlace(l, p.To)
		case If:
			all = append(all, insn.Insn{Code: p.Insn.Code, K: p.Insn.K})
			at = toldPlace(l, p.Else)
			if c.next() {
				at = toldPlace(l, p.To)
			}
		}
	}
	return all
}

// ranCode is the same of instructions.
func ranCode(l []insn.Insn, c choices) []insn.Insn {
	var all []insn.Insn
	for at := 0; at < len(l); {
		i := l[at]
		at++
		switch {
		case i.Code == 5:
			at += int(i.K)
		case i.Code%8 == 5:
			all = append(all, insn.Insn{Code: i.Code, K: i.K})
			if c.next() {
				at += int(i.Jt)
			} else {
				at += int(i.Jf)
			}
		default:
			all = append(all, i)
			if i.Code%8 == 6 {
				return all
			}
		}
	}
	return all
}

// forward tries all lists of up to so many parts of which each name is Here once, and whose ways go forward. Each instruction differs from all others, and so does what each If asks.
func forward(most int, try func(l []Part)) {
	var grow func(behind []Part, names Name)
	grow = func(behind []Part, names Name) {
		try(behind)
		if len(behind) == most {
			return
		}
		k := uint32(len(behind))
		ahead := func(p Part, names Name) { grow(append([]Part{p}, behind...), names) }
		ahead(Part{Kind: Plain, Insn: insn.Insn{Code: 0x20, K: k}}, names)
		ahead(Part{Kind: Plain, Insn: insn.Insn{Code: 0x06, K: k}}, names)
		ahead(Part{Kind: Here, To: names + 1}, names+1)
		for n := range names {
			ahead(Part{Kind: Goto, To: n + 1}, names)
			for m := range names {
				ahead(Part{Kind: If, To: n + 1, Else: m + 1, Insn: insn.Insn{Code: 0x15, K: k}}, names)
			}
		}
	}
	grow(nil, 0)
}

// chance is a list by chance of which each name is Here once, and whose ways go forward; of each kind of parts there are as many as its weight tells.
func chance(r *rand.Rand, n int, weights [5]int) []Part {
	var kinds []int
	for k, w := range weights {
		for range w {
			kinds = append(kinds, k)
		}
	}
	names := r.Perm(n + 1) // in no order
	var there []Name
	l := make([]Part, 0, n)
	for i := range n {
		p := Part{Kind: Plain, Insn: insn.Insn{Code: 0x20, K: uint32(i)}}
		k := kinds[r.Intn(len(kinds))]
		one := func() Name { return there[r.Intn(len(there))] }
		switch {
		case k == 1:
			p = Part{Kind: Here, To: Name(names[i] - n/2)}
			there = append(there, p.To)
		case k == 2:
			p.Insn.Code = 0x16
		case k == 3 && len(there) > 0:
			p = Part{Kind: Goto, To: one()}
		case k == 4 && len(there) > 0:
			p = Part{Kind: If, To: one(), Else: one(), Insn: insn.Insn{Code: []uint16{0x15, 0x2d, 0x35, 0x4d}[r.Intn(4)], K: uint32(i)}}
		}
		l = append(l, p)
	}
	slices.Reverse(l)
	return l
}

// wantSame wants code, or parts, to do what parts do, whatever comparisons say.
func wantSame(t *testing.T, l []Part, c choices, got []insn.Insn) {
	t.Helper()
	if want := ran(l, c); !slices.Equal(got, want) {
		t.Fatalf("%s, choices %b: comes to %v, want %v", told(l), c, got, want)
	}
}

// P13.2: of all short lists whose ways go forward Make and Tidy are what the second telling says, and do what the parts do.
func TestForward(t *testing.T) {
	n := 0
	forward(7, func(l []Part) {
		n++
		code, e := Make(l)
		if want, wantE := toldMake(l); e != wantE || !slices.Equal(code, want) {
			t.Fatalf("Make of %s: %v, %d, want %v, %d", told(l), code, e, want, wantE)
		}
		tidy := Tidy(l)
		if want := toldTidy(l); !slices.Equal(tidy, want) {
			t.Fatalf("Tidy of %s: %s, want %s", told(l), told(tidy), told(want))
		}
		for c := range choices(8) {
			wantSame(t, l, c, ranCode(code, c))
			wantSame(t, l, c, ran(tidy, c))
		}
	})
	if n < 200000 {
		t.Errorf("%d lists", n)
	}
}

// P13.2: of lists by chance likewise: with many names and Gotos, and with few.
func TestTidyByChance(t *testing.T) {
	r := rand.New(rand.NewSource(131))
	for _, weights := range [][5]int{{3, 3, 1, 2, 2}, {1, 6, 1, 6, 2}, {1, 4, 1, 2, 6}, {6, 3, 0, 1, 1}, {1, 8, 0, 8, 0}} {
		for range 4000 {
			l := chance(r, r.Intn(30), weights)
			tidy := Tidy(l)
			if want := toldTidy(l); !slices.Equal(tidy, want) {
				t.Fatalf("Tidy of %s: %s, want %s", told(l), told(tidy), told(want))
			}
			if again := Tidy(tidy); !slices.Equal(again, tidy) {
				t.Fatalf("Tidy of %s, once more: %s", told(tidy), told(again))
			}
			for range 8 {
				c := choices(r.Uint64())
				wantSame(t, l, c, ran(tidy, c))
			}
		}
	}
}

// P13.2: of long lists by chance, whose ways go as far as a comparison jumps and further, code is what the second telling says, and does what the parts do; and so does that of what Tidy leaves.
func TestMakeByChance(t *testing.T) {
	r := rand.New(rand.NewSource(132))
	skips := 0
	for _, weights := range [][5]int{{8, 2, 0, 1, 2}, {2, 2, 0, 0, 2}, {20, 1, 0, 1, 1}, {1, 1, 0, 1, 4}} {
		for range 40 {
			l := chance(r, 200+r.Intn(1000), weights)
			code, e := Make(l)
			if want := toldCode(l); e != 0 || !slices.Equal(code, want) {
				t.Fatalf("Make of %s: %v, %d, want %v", told(l), code, e, want)
			}
			tidy := Tidy(l)
			short, e := Make(tidy)
			if e != 0 {
				t.Fatalf("Make of Tidy of %s: %d", told(l), e)
			}
			for _, p := range l {
				if p.Kind != Here {
					skips--
				}
			}
			skips += len(code)
			for range 8 {
				c := choices(r.Uint64())
				wantSame(t, l, c, ranCode(code, c))
				wantSame(t, l, c, ran(tidy, c))
				wantSame(t, l, c, ranCode(short, c))
			}
		}
	}
	if skips < 10000 {
		t.Errorf("%d Skips behind comparisons", skips)
	}
}

// wrong is parts of each kind, right and wrong ones, two names among them.
func wrong() []Part {
	l := parts("1: 2: p0 r0 g1 g2 i1,1 i1,2 i2,1")
	for _, code := range []uint16{0x05, 0x0d, 0x1d, 0x00, 0x06} {
		l = append(l, Part{Kind: If, To: 1, Else: 1, Insn: insn.Insn{Code: code}})
	}
	for _, code := range []uint16{0x05, 0x15, 0x0e, 0xffff} {
		l = append(l, Part{Kind: Plain, To: 1, Else: 2, Insn: insn.Insn{Code: code}})
	}
	return append(l, Part{To: 1}, Part{Kind: 5, To: 1, Else: 2}, Part{Kind: 255, Insn: insn.Insn{Code: 0x06}})
}

// P13.2, R2, R3, P1: of all lists of up to four parts, right and wrong ones, Make is what the second telling says; of all Tidy ends, is no longer than the list, and leaves that as it is.
func TestAllShort(t *testing.T) {
	all := wrong()
	var grow func(l []Part)
	grow = func(l []Part) {
		code, e := Make(l)
		if want, wantE := toldMake(l); e != wantE || !slices.Equal(code, want) {
			t.Fatalf("Make of %s: %v, %d, want %v, %d", told(l), code, e, want, wantE)
		}
		ahead := slices.Clone(l)
		if tidy := Tidy(l); len(tidy) > len(l) || !slices.Equal(l, ahead) {
			t.Fatalf("Tidy of %s: %s; the list is %s", told(ahead), told(tidy), told(l))
		}
		if len(l) == 4 {
			return
		}
		for _, p := range all {
			grow(append(slices.Clone(l), p))
		}
	}
	grow(nil)
}
