package vm

import (
	"math"
	"math/rand"
	"slices"
	"sync"
	"testing"

	"pinfold/api"
	"pinfold/check"
	"pinfold/insn"
	"pinfold/record"
)

// known is the codes that a filter may have, written out as numbers.
var known = []uint16{
	0x20, 0x00, 0x60, 0x80, 0x01, 0x61, 0x81, 0x02, 0x03, 0x06, 0x16, 0x07, 0x87, 0x05, 0x84,
	0x04, 0x0c, 0x14, 0x1c, 0x24, 0x2c, 0x34, 0x3c, 0x44, 0x4c, 0x54, 0x5c, 0x64, 0x6c, 0x74, 0x7c, 0xa4, 0xac,
	0x15, 0x1d, 0x25, 0x2d, 0x35, 0x3d, 0x45, 0x4d,
}

// branches is the codes that jump by Jt or Jf.
var branches = []uint16{0x15, 0x1d, 0x25, 0x2d, 0x35, 0x3d, 0x45, 0x4d}

// Instructions that the tests put filters together of.
var (
	tax  = insn.Insn{Code: 0x07}
	txa  = insn.Insn{Code: 0x87}
	reta = insn.Insn{Code: 0x16}
	divx = insn.Insn{Code: 0x3c}
)

func ld(k uint32) insn.Insn     { return insn.Insn{Code: 0x00, K: k} }
func ldx(k uint32) insn.Insn    { return insn.Insn{Code: 0x01, K: k} }
func ldabs(k uint32) insn.Insn  { return insn.Insn{Code: 0x20, K: k} }
func ldmem(k uint32) insn.Insn  { return insn.Insn{Code: 0x60, K: k} }
func ldxmem(k uint32) insn.Insn { return insn.Insn{Code: 0x61, K: k} }
func st(k uint32) insn.Insn     { return insn.Insn{Code: 0x02, K: k} }
func stx(k uint32) insn.Insn    { return insn.Insn{Code: 0x03, K: k} }
func ja(k uint32) insn.Insn     { return insn.Insn{Code: 0x05, K: k} }
func ret(k uint32) insn.Insn    { return insn.Insn{Code: 0x06, K: k} }

// edges is numbers at which something may turn.
var edges = []uint32{
	0, 1, 2, 3, 4, 5, 7, 8, 15, 16, 30, 31, 32, 33, 34, 63, 64, 65, 100, 127, 128, 255, 256, 1000, 4095, 4096, 0x7fff, 0x8000, 0xffff, 0x10000, 0x10001,
	0x55555555, 0xaaaaaaaa, 0x12345678, 0x7ffffffe, 0x7fffffff, 0x80000000, 0x80000001, 0xfffe0000, 0xffff0000, 0xffffffe0, 0xfffffffe, 0xffffffff,
}

// mustLoad is a filter of instructions that may be loaded.
func mustLoad(t *testing.T, l ...insn.Insn) *Filter {
	t.Helper()
	f, w := Load(l)
	if f == nil || w != (check.Wrong{}) {
		t.Fatalf("Load of %d, %v: %v", len(l), l[:min(len(l), 12)], w)
	}
	return f
}

func wantRun(t *testing.T, what string, f *Filter, r record.Record, action record.Action, steps int) {
	t.Helper()
	if a, n := f.Run(r); a != action || n != steps {
		t.Errorf("%s: Run: %#x, %d; want %#x, %d", what, uint32(a), n, uint32(action), steps)
	}
}

func wantTraces(t *testing.T, what string, f *Filter, r record.Record, want ...Trace) {
	t.Helper()
	if got := f.Traces(r); !slices.Equal(got, want) {
		t.Errorf("%s: Traces: %v; want %v", what, got, want)
	}
}

func wantCounts(t *testing.T, what string, f *Filter, runs, steps int64) {
	t.Helper()
	if r, s := f.Counts(); r != runs || s != steps {
		t.Errorf("%s: Counts: %d, %d; want %d, %d", what, r, s, runs, steps)
	}
}

// reckoned: what A is behind an Alu, told from the chapter's words by numbers of 64 bits; false: the run ends.
func reckoned(code uint16, a, n uint32) (uint32, bool) {
	const all = 1 << 32
	x, y := uint64(a), uint64(n)
	var z uint64
	switch code {
	case 0x04, 0x0c:
		z = x + y
	case 0x14, 0x1c:
		z = x + all - y
	case 0x24, 0x2c:
		z = x * y
	case 0x34, 0x3c:
		if y == 0 {
			return a, false
		}
		z = x / y
	case 0x44, 0x4c, 0x54, 0x5c, 0xa4, 0xac:
		for bit := range 32 {
			p, q := x>>bit%2, y>>bit%2
			switch {
			case code&^8 == 0x44 && p+q > 0, code&^8 == 0x54 && p+q == 2, code&^8 == 0xa4 && p+q == 1:
				z += 1 << bit
			}
		}
	case 0x64, 0x6c:
		z = x
		for range y % 32 {
			z = z * 2 % all
		}
	case 0x74, 0x7c:
		z = x
		for range y % 32 {
			z /= 2
		}
	case 0x84:
		z = all - x
	}
	return uint32(z % all), true
}

// asked: is it so of A and a number, what a branch asks?
func asked(code uint16, a, n uint32) bool {
	switch code {
	case 0x15, 0x1d:
		return a == n
	case 0x25, 0x2d:
		return a > n
	case 0x35, 0x3d:
		return !(a < n)
	}
	for bit := range 32 {
		if a>>bit%2 == 1 && n>>bit%2 == 1 {
			return true
		}
	}
	return false
}

// withX: is a code's number X?
func withX(code uint16) bool { return code == 0x84 || code&8 != 0 }

// toldRun: a run, told from the chapter's words anew: the action, and each step.
func toldRun(l []insn.Insn, r record.Record) (record.Action, []Trace) {
	var all []Trace
	var a, x uint32
	scratch := map[uint32]uint32{}
	b := r.Bytes()
	for at := 0; ; {
		i := l[at]
		to := at + 1
		n := i.K
		if withX(i.Code) {
			n = x
		}
		going := true
		switch i.Code {
		case 0x00:
			a = i.K
		case 0x20:
			a = uint32(b[i.K]) + uint32(b[i.K+1])*256 + uint32(b[i.K+2])*65536 + uint32(b[i.K+3])*16777216
		case 0x60:
			a = scratch[i.K]
		case 0x80:
			a = 64
		case 0x01:
			x = i.K
		case 0x61:
			x = scratch[i.K]
		case 0x81:
			x = 64
		case 0x02:
			scratch[i.K] = a
		case 0x03:
			scratch[i.K] = x
		case 0x07:
			x = a
		case 0x87:
			a = x
		case 0x05:
			to += int(i.K)
		case 0x15, 0x1d, 0x25, 0x2d, 0x35, 0x3d, 0x45, 0x4d:
			if asked(i.Code, a, n) {
				to += int(i.Jt)
			} else {
				to += int(i.Jf)
			}
		case 0x06, 0x16:
		default:
			a, going = reckoned(i.Code, a, n)
		}
		all = append(all, Trace{At: at, A: a, X: x})
		switch {
		case i.Code == 0x06:
			return record.Action(i.K), all
		case i.Code == 0x16:
			return record.Action(a), all
		case !going:
			return 0, all
		}
		at = to
	}
}

// wantToldRun: a run and its traces are as the chapter's words tell, and both count.
func wantToldRun(t *testing.T, f *Filter, l []insn.Insn, r record.Record) {
	t.Helper()
	action, all := toldRun(l, r)
	runs, steps := f.Counts()
	if a, n := f.Run(r); a != action || n != len(all) {
		t.Fatalf("Run of %v, %v: %#x, %d; want %#x, %d", l, r, uint32(a), n, uint32(action), len(all))
	}
	wantCounts(t, "behind a run", f, runs+1, steps+int64(len(all)))
	if got := f.Traces(r); !slices.Equal(got, all) {
		t.Fatalf("Traces of %v, %v: %v; want %v", l, r, got, all)
	}
	wantCounts(t, "behind traces", f, runs+2, steps+2*int64(len(all)))
}

// somewhere is a record by chance: its numbers are edges, or any.
func somewhere(r *rand.Rand) record.Record {
	n := func() uint64 {
		if r.Intn(3) == 0 {
			return r.Uint64()
		}
		return uint64(edges[r.Intn(len(edges))])<<32 | uint64(edges[r.Intn(len(edges))])
	}
	x := record.Record{Number: uint32(n()), Arch: uint32(n()), At: n()}
	for i := range x.Args {
		x.Args[i] = n()
	}
	return x
}

// some is a filter of all kinds of instructions, by chance; nearly all may be loaded.
func some(r *rand.Rand) []insn.Insn {
	var l []insn.Insn
	for k := range uint32(r.Intn(4)) {
		l = append(l, ldabs(uint32(r.Intn(16))*4), []insn.Insn{st(k), stx(k), tax, txa}[r.Intn(4)])
	}
	for n := len(l) + 2 + r.Intn(20); len(l) < n; {
		i := insn.Insn{Code: known[r.Intn(len(known))], Jt: uint8(r.Intn(4)), Jf: uint8(r.Intn(4)), K: edges[r.Intn(len(edges))]}
		behind := uint32(n - len(l) - 1)
		switch i.Code {
		case 0x06, 0x16:
			if r.Intn(4) > 0 {
				i = ldabs(uint32(r.Intn(16)) * 4)
			}
		case 0x20:
			i.K = uint32(r.Intn(16)) * 4
		case 0x60, 0x61:
			i.K = uint32(r.Intn(4))
		case 0x02, 0x03:
			i.K %= 16
		case 0x34:
			i.K = max(i.K, 1)
		case 0x64, 0x74:
			i.K %= 32
		case 0x05:
			i.K = min(i.K%4, behind)
		}
		if i.Code&7 == 5 {
			i.Jt, i.Jf = min(i.Jt, uint8(behind)), min(i.Jf, uint8(behind))
		}
		l = append(l, i)
	}
	return append(l, []insn.Insn{ret(edges[r.Intn(len(edges))]), reta}[r.Intn(2)])
}

// P6.1, P6.2: the document's example.
func TestExamples(t *testing.T) {
	f := mustLoad(t, insn.Load(0), insn.If(insn.Jeq, 2, 0, 1), insn.Return(7), insn.Return(9))
	wantRun(t, "of number 2", f, record.Record{Number: 2}, 7, 3)
	wantRun(t, "of number 3", f, record.Record{Number: 3}, 9, 3)
	wantTraces(t, "of number 2", f, record.Record{Number: 2}, Trace{0, 2, 0}, Trace{1, 2, 0}, Trace{2, 2, 0})
	wantTraces(t, "of number 3", f, record.Record{Number: 3}, Trace{0, 3, 0}, Trace{1, 3, 0}, Trace{3, 3, 0})
	wantCounts(t, "four runs", f, 4, 12)
}

// P6.1, R3, R5: of what may not be loaded there is no filter; what is wrong is told as check tells it.
func TestLoadWrong(t *testing.T) {
	long := append(slices.Repeat([]insn.Insn{ld(1)}, 4096), ret(1))
	for _, x := range []struct {
		what string
		l    []insn.Insn
		want check.Wrong
	}{
		{"nil", nil, check.Wrong{At: 0, Err: api.ErrForm}},
		{"none", []insn.Insn{}, check.Wrong{At: 0, Err: api.ErrForm}},
		{"too many", long, check.Wrong{At: 4096, Err: api.ErrMany}},
		{"a code that isn't known", []insn.Insn{ld(1), {Code: 0x28}, ret(1)}, check.Wrong{At: 1, Err: api.ErrCode}},
		{"a jump too far", []insn.Insn{ld(1), ja(1), ret(1)}, check.Wrong{At: 1, Err: api.ErrJump}},
		{"a jump to ahead", []insn.Insn{ld(1), ja(math.MaxUint32), ret(1)}, check.Wrong{At: 1, Err: api.ErrJump}},
		{"a branch too far", []insn.Insn{{Code: 0x15, Jt: 1}, ret(1)}, check.Wrong{At: 0, Err: api.ErrJump}},
		{"a load beside the record's numbers", []insn.Insn{ld(1), ldabs(62), ret(1)}, check.Wrong{At: 1, Err: api.ErrRange}},
		{"a load behind the record", []insn.Insn{ldabs(64), ret(1)}, check.Wrong{At: 0, Err: api.ErrRange}},
		{"a scratch number that there isn't", []insn.Insn{ld(1), ld(2), st(16), ret(1)}, check.Wrong{At: 2, Err: api.ErrRange}},
		{"divided by nought", []insn.Insn{{Code: 0x34}, ret(1)}, check.Wrong{At: 0, Err: api.ErrRange}},
		{"moved too far", []insn.Insn{ld(1), {Code: 0x64, K: 32}, ret(1)}, check.Wrong{At: 1, Err: api.ErrRange}},
		{"no end", []insn.Insn{ret(1), ld(1)}, check.Wrong{At: 1, Err: api.ErrEnd}},
		{"a scratch number that isn't stored", []insn.Insn{ld(1), ldmem(0), ret(1)}, check.Wrong{At: 1, Err: api.ErrNone}},
	} {
		if f, w := Load(x.l); f != nil || w != x.want {
			t.Errorf("Load, %s: %v, %v; want none, %v", x.what, f != nil, w, x.want)
		}
	}
}

// P6.1, P6.2: a filter's length and instructions, from the shortest to the longest, each part as it was handed in.
func TestLoadRight(t *testing.T) {
	odd := []insn.Insn{{Code: 0x00, Jt: 8, Jf: 9, K: 3}, {Code: 0x05, Jt: 255, Jf: 254, K: 1}, {Code: 0x0c, Jt: 1, Jf: 2, K: 99}, {Code: 0x16, Jt: 3, Jf: 4, K: 5}}
	for _, l := range [][]insn.Insn{
		{ret(1)}, {reta}, {ld(1), ret(1)}, odd, {ret(1), ld(1), ret(2)},
		append(slices.Repeat([]insn.Insn{ld(1)}, 4095), reta),
	} {
		f := mustLoad(t, l...)
		if n := f.Len(); n != len(l) {
			t.Errorf("Len: %d; want %d", n, len(l))
		}
		if got := f.Insns(); !slices.Equal(got, l) {
			t.Errorf("Insns of %d: %d others", len(l), len(got))
		}
	}
}

// P6.1: what Load says is what check says, whatever it is handed.
func TestLoadByCheck(t *testing.T) {
	r := rand.New(rand.NewSource(3))
	right := 0
	for range 50000 {
		l := some(r)
		l[r.Intn(len(l))].Code = uint16(r.Intn(0xb0))
		want := check.Check(l)
		f, w := Load(l)
		if w != want || (f == nil) != (w != check.Wrong{}) {
			t.Fatalf("Load of %v: %v, %v; want %v", l, f != nil, w, want)
		}
		if f != nil {
			right++
		}
	}
	if right < 1000 || right > 49000 {
		t.Errorf("%d of 50000 may be loaded", right)
	}
}

// P6.1: Ret of K and of A, whatever they are; A and X are 0 at first, at each run anew.
func TestRet(t *testing.T) {
	for _, n := range edges {
		r := record.Record{Number: ^n}
		wantRun(t, "of K", mustLoad(t, ret(n)), r, record.Action(n), 1)
		wantTraces(t, "of K", mustLoad(t, ret(n)), r, Trace{})
		wantRun(t, "of A", mustLoad(t, insn.Insn{Code: 0x16, K: n}), r, 0, 1)
		wantRun(t, "of A that is set", mustLoad(t, ld(n), insn.Insn{Code: 0x16, K: ^n}), r, record.Action(n), 2)
		wantRun(t, "not of X", mustLoad(t, ldx(n), reta), r, 0, 2)
		wantRun(t, "what is behind it isn't run", mustLoad(t, ret(n), ret(^n)), r, record.Action(n), 1)
	}
	f := mustLoad(t, st(3), stx(4), txa, insn.Insn{Code: 0x44, K: 6}, tax, st(5), ldmem(3), ldxmem(4), ld(9), ldx(9), reta)
	want := []Trace{{0, 0, 0}, {1, 0, 0}, {2, 0, 0}, {3, 6, 0}, {4, 6, 6}, {5, 6, 6}, {6, 0, 6}, {7, 0, 0}, {8, 9, 0}, {9, 9, 9}, {10, 9, 9}}
	for range 3 {
		wantTraces(t, "each run anew", f, record.Record{Number: 5}, want...)
		wantRun(t, "each run anew", f, record.Record{Number: 5}, 9, 11)
	}
}

// P6.1: Ld, Ldx with Imm and Len: one of the two is set, the other one stays.
func TestLoads(t *testing.T) {
	for _, n := range edges {
		wantTraces(t, "Imm", mustLoad(t, ld(n), ldx(n+1), ld(n+2), reta), record.Record{},
			Trace{0, n, 0}, Trace{1, n, n + 1}, Trace{2, n + 2, n + 1}, Trace{3, n + 2, n + 1})
		wantTraces(t, "Len", mustLoad(t, ld(5), ldx(6), insn.Insn{Code: 0x80, K: n}, insn.Insn{Code: 0x00, K: 7}, insn.Insn{Code: 0x81, K: n}, ret(1)), record.Record{},
			Trace{0, 5, 0}, Trace{1, 5, 6}, Trace{2, 64, 6}, Trace{3, 7, 6}, Trace{4, 7, 64}, Trace{5, 7, 64})
	}
}

// P6.1: Ld with Abs is the record's number at each of its places, the lowest byte first.
func TestAbs(t *testing.T) {
	var b [api.RecordSize]byte
	for i := range b {
		b[i] = byte(i*7 + 130)
	}
	r := record.Of(b)
	for k := uint32(0); k <= 60; k += 4 {
		want := uint32(b[k]) | uint32(b[k+1])<<8 | uint32(b[k+2])<<16 | uint32(b[k+3])<<24
		wantTraces(t, "Abs", mustLoad(t, ldx(3), ldabs(k), reta), r, Trace{0, 0, 3}, Trace{1, want, 3}, Trace{2, want, 3})
	}
	r = record.Record{Number: 1, Arch: record.Arch, At: 3 | 4<<32, Args: [6]uint64{5 | 6<<32, 7, 8, 9, 10, 11 | 12<<32}}
	for k, want := range map[uint32]record.Action{0: 1, 4: 0xc000003e, 8: 3, 12: 4, 16: 5, 20: 6, 24: 7, 28: 0, 32: 8, 56: 11, 60: 12} {
		wantRun(t, "Abs", mustLoad(t, ldabs(k), reta), r, want, 2)
	}
}

// P6.1: St, Stx, Mem: each scratch number keeps what was stored last, from A or from X, and gives it to A or to X; no other one changes.
func TestScratch(t *testing.T) {
	for k := range uint32(16) {
		f := mustLoad(t, ld(5), ldx(6), st(k), ld(7), stx(15-k), ldx(8), ldmem(k), ldxmem(15-k), ldmem(15-k), ldxmem(k), ret(1))
		wantTraces(t, "both", f, record.Record{}, Trace{0, 5, 0}, Trace{1, 5, 6}, Trace{2, 5, 6}, Trace{3, 7, 6}, Trace{4, 7, 6}, Trace{5, 7, 8},
			Trace{6, 5, 8}, Trace{7, 5, 6}, Trace{8, 6, 6}, Trace{9, 6, 5}, Trace{10, 6, 5})
		wantRun(t, "the last", mustLoad(t, ld(5), ldx(6), st(k), stx(k), ldmem(k), reta), record.Record{}, 6, 6)
		wantRun(t, "the last", mustLoad(t, ld(5), ldx(6), stx(k), st(k), ldmem(k), reta), record.Record{}, 5, 6)
	}
	var l []insn.Insn
	for k := range uint32(16) {
		l = append(l, ld(100+k), st(k))
	}
	for k := range uint32(16) {
		wantRun(t, "one of all", mustLoad(t, append(slices.Clip(l), ldmem(k), reta)...), record.Record{}, record.Action(100+k), 34)
		wantRun(t, "one of all, to X", mustLoad(t, append(slices.Clip(l), ldxmem(k), txa, reta)...), record.Record{}, record.Action(100+k), 35)
	}
}

// P6.1: Tax, Txa.
func TestMisc(t *testing.T) {
	for _, n := range edges {
		wantTraces(t, "Tax", mustLoad(t, ld(n), ldx(^n), insn.Insn{Code: 0x07, K: 9}, ret(1)), record.Record{}, Trace{0, n, 0}, Trace{1, n, ^n}, Trace{2, n, n}, Trace{3, n, n})
		wantTraces(t, "Txa", mustLoad(t, ld(n), ldx(^n), insn.Insn{Code: 0x87, K: 9}, ret(1)), record.Record{}, Trace{0, n, 0}, Trace{1, n, ^n}, Trace{2, ^n, ^n}, Trace{3, ^n, ^n})
	}
}

// P6.1: each Alu, by K and by X, of all edges.
func TestAlu(t *testing.T) {
	for _, code := range known {
		if code&7 != 4 {
			continue
		}
		for _, a := range edges {
			for _, n := range edges {
				i, x := insn.Insn{Code: code, K: n}, a^0x1234
				if withX(code) {
					i.K, x = n^0x4321, n
				}
				f, w := Load([]insn.Insn{ld(a), ldx(x), i, reta})
				if w.Err == api.ErrRange { // by K 0, or 32 and more
					continue
				}
				wantAlu(t, f, i, a, x, n)
			}
		}
	}
}

func wantAlu(t *testing.T, f *Filter, i insn.Insn, a, x, n uint32) {
	t.Helper()
	r := record.Record{Number: 77}
	want, going := reckoned(i.Code, a, n)
	if !going {
		wantRun(t, "by 0", f, r, 0, 3)
		wantTraces(t, "by 0", f, r, Trace{0, a, 0}, Trace{1, a, x}, Trace{2, a, x})
		return
	}
	if got, steps := f.Run(r); got != record.Action(want) || steps != 4 {
		t.Errorf("%#x of %d and %d: %d, %d; want %d, 4", i.Code, a, n, got, steps, want)
	}
	wantTraces(t, "Alu", f, r, Trace{0, a, 0}, Trace{1, a, x}, Trace{2, want, x}, Trace{3, want, x})
}

// P6.1: some of what is reckoned, written out.
func TestAluWrittenOut(t *testing.T) {
	for _, x := range []struct {
		what       string
		code       uint16
		a, n, want uint32
	}{
		{"plus", 0x04, 2, 3, 5}, {"plus, over", 0x04, math.MaxUint32, 2, 1},
		{"less", 0x14, 9, 4, 5}, {"less, below", 0x14, 4, 9, 0xfffffffb},
		{"times", 0x24, 6, 7, 42}, {"times, over", 0x24, 0x10001, 0x10001, 0x20001},
		{"by", 0x34, 43, 7, 6}, {"by, without signs", 0x34, 0xffffffff, 2, 0x7fffffff}, {"by more", 0x34, 6, 7, 0},
		{"or", 0x44, 0xc, 0xa, 0xe}, {"and", 0x54, 0xc, 0xa, 8}, {"exclusive or", 0xa4, 0xc, 0xa, 6},
		{"up", 0x64, 3, 4, 48}, {"up, out", 0x64, 0x80000001, 31, 0x80000000}, {"down", 0x74, 48, 4, 3}, {"down, without signs", 0x74, 0x80000000, 31, 1},
	} {
		wantRun(t, x.what+" K", mustLoad(t, ld(x.a), insn.Insn{Code: x.code, K: x.n}, reta), record.Record{}, record.Action(x.want), 3)
		wantRun(t, x.what+" X", mustLoad(t, ld(x.a), ldx(x.n), insn.Insn{Code: x.code + 8, K: 1}, reta), record.Record{}, record.Action(x.want), 4)
	}
	for n, want := range map[uint32]record.Action{32: 5, 33: 10, 63: 0x80000000, 64: 5, 0xffffffe1: 10, 0x100: 5} {
		wantRun(t, "up by the lowest five bits", mustLoad(t, ld(5), ldx(n), insn.Insn{Code: 0x6c}, reta), record.Record{}, want, 4)
	}
	for n, want := range map[uint32]record.Action{32: 0x80000010, 36: 0x08000001, 63: 1, 64: 0x80000010, 0xffffffe1: 0x40000008} {
		wantRun(t, "down by the lowest five bits", mustLoad(t, ld(0x80000010), ldx(n), insn.Insn{Code: 0x7c}, reta), record.Record{}, want, 4)
	}
	for a, want := range map[uint32]record.Action{0: 0, 1: 0xffffffff, 0xffffffff: 1, 0x80000000: 0x80000000, 5: 0xfffffffb} {
		wantRun(t, "0 less A", mustLoad(t, ld(a), ldx(3), insn.Insn{Code: 0x84, K: 8}, reta), record.Record{}, want, 4)
	}
}

// P6.1: by X 0 the run ends with action 0, of Kill's kind, whatever A is; the step is told and counts; nothing behind it is run.
func TestByNought(t *testing.T) {
	for _, a := range edges {
		f := mustLoad(t, ld(a), insn.Insn{Code: 0x3c, K: 5}, ld(9), ret(uint32(record.Allow)))
		wantRun(t, "by 0", f, record.Record{}, 0, 2)
		wantTraces(t, "by 0", f, record.Record{}, Trace{0, a, 0}, Trace{1, a, 0})
		wantCounts(t, "by 0", f, 2, 4)
		if a, _ := f.Run(record.Record{}); a.Kind() != record.Kill {
			t.Errorf("by 0: kind %#x", uint32(a.Kind()))
		}
	}
	f := mustLoad(t, ldabs(16), tax, ldabs(24), divx, reta)
	wantRun(t, "by 3", f, record.Record{Args: [6]uint64{3, 10}}, 3, 5)
	wantRun(t, "by 0", f, record.Record{Args: [6]uint64{1 << 32, 10}}, 0, 4)
	wantRun(t, "0 by 1", f, record.Record{Args: [6]uint64{1, 0}}, 0, 5)
}

// P6.1: each branch, by K and by X, of all edges: Jt further if so, else Jf.
func TestBranches(t *testing.T) {
	for _, code := range branches {
		for _, a := range edges {
			for _, n := range edges {
				i, x := insn.Insn{Code: code, Jt: 1, Jf: 0, K: n}, a^0x1234
				if withX(code) {
					i.K, x = n^0x4321, n
				}
				so, other := 4, 3
				if !asked(code, a, n) {
					so, other = 3, 4
				}
				f := mustLoad(t, ld(a), ldx(x), i, ret(3), ret(4))
				wantRun(t, "a branch", f, record.Record{}, record.Action(so), 4)
				i.Jt, i.Jf = 0, 1
				f = mustLoad(t, ld(a), ldx(x), i, ret(3), ret(4))
				wantTraces(t, "a branch", f, record.Record{}, Trace{0, a, 0}, Trace{1, a, x}, Trace{2, a, x}, Trace{other, a, x})
			}
		}
	}
}

// P6.1: some of what branches ask, written out.
func TestBranchesWrittenOut(t *testing.T) {
	for _, x := range []struct {
		code uint16
		a, n uint32
		so   bool
	}{
		{0x15, 5, 5, true}, {0x15, 5, 6, false}, {0x15, 0, 0, true},
		{0x25, 6, 5, true}, {0x25, 5, 5, false}, {0x25, 4, 5, false}, {0x25, 0x80000000, 1, true}, {0x25, 1, 0xffffffff, false},
		{0x35, 6, 5, true}, {0x35, 5, 5, true}, {0x35, 4, 5, false}, {0x35, 0xffffffff, 0, true}, {0x35, 0, 0x80000000, false},
		{0x45, 6, 2, true}, {0x45, 6, 9, false}, {0x45, 0, 0, false}, {0x45, 5, 0, false}, {0x45, 0x80000000, 0x80000001, true}, {0x45, 6, 3, true},
	} {
		want := record.Action(2)
		if x.so {
			want = 1
		}
		wantRun(t, "by K", mustLoad(t, ld(x.a), insn.Insn{Code: x.code, Jf: 1, K: x.n}, ret(1), ret(2)), record.Record{}, want, 3)
		wantRun(t, "by X", mustLoad(t, ld(x.a), ldx(x.n), insn.Insn{Code: x.code + 8, Jf: 1, K: 5}, ret(1), ret(2)), record.Record{}, want, 4)
	}
}

// places is n instructions that each say where they stand.
func places(n int) []insn.Insn {
	l := make([]insn.Insn, n)
	for at := range l {
		l[at] = ret(uint32(at))
	}
	return l
}

// P6.1: how far jumps go: Ja by K, the others by Jt and by Jf, each up to its greatest.
func TestFar(t *testing.T) {
	for _, k := range []uint32{0, 1, 2, 255, 256, 1000, 4094} {
		l := places(4096)
		l[0] = insn.Insn{Code: 0x05, Jt: 3, Jf: 4, K: k}
		wantRun(t, "Ja", mustLoad(t, l...), record.Record{}, record.Action(k+1), 2)
	}
	for _, code := range branches {
		for _, far := range []uint8{0, 1, 2, 127, 128, 200, 254, 255} {
			for _, a := range []uint32{1, 9} {
				l := places(400)
				l[0], l[1], l[2] = ld(a), ldx(9), ja(17)
				l[20] = insn.Insn{Code: code, Jt: far, Jf: 255 - far, K: 9}
				want := record.Action(21 + 255 - int(far))
				if asked(code, a, 9) {
					want = record.Action(21 + int(far))
				}
				wantRun(t, "a branch", mustLoad(t, l...), record.Record{}, want, 5)
			}
		}
	}
}

// P6.1, P6.2: the longest runs.
func TestLong(t *testing.T) {
	add := insn.Insn{Code: 0x04, K: 3}
	f := mustLoad(t, append(slices.Repeat([]insn.Insn{add}, 4095), reta)...)
	wantRun(t, "4096", f, record.Record{}, 3*4095, 4096)
	all := f.Traces(record.Record{})
	if len(all) != 4096 {
		t.Fatalf("Traces: %d", len(all))
	}
	for at, x := range all {
		if want := (Trace{at, 3 * uint32(min(at+1, 4095)), 0}); x != want {
			t.Errorf("Traces: %v; want %v", x, want)
		}
	}
	wantCounts(t, "4096", f, 2, 8192)
	wantRun(t, "by Ja alone", mustLoad(t, append(slices.Repeat([]insn.Insn{ja(0)}, 4095), ret(5))...), record.Record{}, 5, 4096)
}

// P6.1: runs of filters of all kinds, of records of all kinds, are what the chapter's words tell.
func TestRunsByWords(t *testing.T) {
	r := rand.New(rand.NewSource(1))
	loaded, nought := 0, 0
	seen := map[uint16]int{}
	for range 60000 {
		l := some(r)
		f, w := Load(l)
		if w != (check.Wrong{}) {
			continue
		}
		loaded++
		for range 4 {
			x := somewhere(r)
			wantToldRun(t, f, l, x)
			_, all := toldRun(l, x)
			for _, s := range all {
				seen[l[s.At].Code]++
			}
			if last := l[all[len(all)-1].At].Code; last == 0x3c {
				nought++
			}
		}
	}
	if loaded < 10000 || nought < 100 {
		t.Errorf("%d alone were loaded, %d ended by 0", loaded, nought)
	}
	for _, code := range known {
		if seen[code] < 1000 {
			t.Errorf("%#x was run %d times alone", code, seen[code])
		}
	}
}

// P6.2: how often it ran, how many steps that took: Run, Traces and All count, nothing else does; each filter counts for itself.
func TestCounts(t *testing.T) {
	l := []insn.Insn{insn.Load(0), insn.If(insn.Jeq, 2, 1, 0), insn.Return(7), insn.Mask(1), reta}
	f, other := mustLoad(t, l...), mustLoad(t, l...)
	wantCounts(t, "at first", f, 0, 0)
	f.Len()
	f.Insns()
	wantCounts(t, "asked", f, 0, 0)
	f.Run(record.Record{Number: 2})
	wantCounts(t, "a run of four", f, 1, 4)
	f.Run(record.Record{Number: 3})
	wantCounts(t, "a run of three", f, 2, 7)
	f.Traces(record.Record{Number: 2})
	wantCounts(t, "traces", f, 3, 11)
	All([]*Filter{f}, record.Record{Number: 3})
	wantCounts(t, "all", f, 4, 14)
	All([]*Filter{f, nil, f}, record.Record{Number: 2})
	wantCounts(t, "all, twice", f, 6, 22)
	wantCounts(t, "asked", f, 6, 22)
	wantCounts(t, "the other one", other, 0, 0)
}

// P6.2: many run one filter at once: each is answered as if it were alone, all of them count; at no time fewer steps are told than the runs told took.
func TestAtOnce(t *testing.T) {
	const tasks, rounds, steps = 32, 200, 9
	l := []insn.Insn{insn.Load(0), st(3), tax, insn.Load(16), insn.Insn{Code: 0x0c}, st(4), ldmem(3), ldmem(4), reta}
	f := mustLoad(t, l...)
	start := make(chan struct{})
	var w sync.WaitGroup
	for n := range uint32(tasks) {
		w.Go(func() {
			<-start
			for round := range uint32(rounds) {
				runAtOnce(t, f, n, round)
				if runs, took := f.Counts(); took < runs*steps || runs > 3*tasks*rounds || took > 3*tasks*rounds*steps {
					t.Errorf("meanwhile: Counts: %d, %d", runs, took)
				}
			}
		})
	}
	close(start)
	w.Wait()
	wantCounts(t, "at once", f, 3*tasks*rounds, 3*tasks*rounds*steps)
}

func runAtOnce(t *testing.T, f *Filter, n, round uint32) {
	r := record.Record{Number: n << 16, Args: [6]uint64{uint64(round)}}
	want := n<<16 + round
	if a, steps := f.Run(r); a != record.Action(want) || steps != 9 {
		t.Errorf("at once: Run: %#x, %d", uint32(a), steps)
	}
	if all := f.Traces(r); len(all) != 9 || all[8] != (Trace{8, want, n << 16}) {
		t.Errorf("at once: Traces: %v", all)
	}
	if a := All([]*Filter{f}, r); a.Kind() != record.Action(want).Kind() {
		t.Errorf("at once: All: %#x", uint32(a))
	}
}

// saying: filters that each say one thing.
func saying(t *testing.T, actions ...record.Action) []*Filter {
	t.Helper()
	var l []*Filter
	for _, a := range actions {
		l = append(l, mustLoad(t, ret(uint32(a))))
	}
	return l
}

// P6.2, R5: of no filters Allow.
func TestAllOfNone(t *testing.T) {
	for _, l := range [][]*Filter{nil, {}} {
		if a := All(l, record.Record{Number: 3}); a != record.Allow {
			t.Errorf("All of none: %#x", uint32(a))
		}
	}
}

// P6.2: all together: the strongest; of those as strong the last; nothing weaker than Allow, nor another one of its kind.
func TestAll(t *testing.T) {
	const kill, errno, log, allow = record.Kill, record.Errno, record.Log, record.Allow
	for _, x := range []struct {
		said []record.Action
		want record.Action
	}{
		{[]record.Action{allow}, allow}, {[]record.Action{log}, log}, {[]record.Action{errno + 13}, errno + 13}, {[]record.Action{kill}, kill},
		{[]record.Action{allow + 5}, allow}, {[]record.Action{allow + 5, allow + 6}, allow}, {[]record.Action{log + 5}, log + 5},
		{[]record.Action{log, allow}, log}, {[]record.Action{allow, log}, log},
		{[]record.Action{errno + 1, log}, errno + 1}, {[]record.Action{log, errno + 1}, errno + 1},
		{[]record.Action{kill, errno + 1}, kill}, {[]record.Action{errno + 1, kill}, kill},
		{[]record.Action{errno + 1, errno + 2}, errno + 2}, {[]record.Action{errno + 2, errno + 1}, errno + 1},
		{[]record.Action{errno + 1, allow, errno + 2, log}, errno + 2}, {[]record.Action{log + 1, log + 2, allow, log + 3, allow}, log + 3},
		{[]record.Action{kill, kill + 1}, kill + 1}, {[]record.Action{kill + 1, kill}, kill},
		{[]record.Action{0}, 0}, {[]record.Action{0, kill}, kill}, {[]record.Action{kill, 0}, 0}, {[]record.Action{0, errno, allow}, 0},
		{[]record.Action{0x7ffd0000, 0x00040001, errno}, 0x00040001}, {[]record.Action{0xffffffff, log}, 0xffffffff},
		{[]record.Action{allow, allow, allow}, allow},
	} {
		if a := All(saying(t, x.said...), record.Record{}); a != x.want {
			t.Errorf("All of %x: %#x; want %#x", x.said, uint32(a), uint32(x.want))
		}
	}
}

// P6.2: a filter that there isn't kills, as strong as any other one that kills.
func TestAllOfNil(t *testing.T) {
	allow, nought := mustLoad(t, ret(uint32(record.Allow))), mustLoad(t, ret(0))
	for _, x := range []struct {
		what string
		l    []*Filter
		want record.Action
	}{
		{"alone", []*Filter{nil}, record.Kill}, {"ahead", []*Filter{nil, allow}, record.Kill}, {"behind", []*Filter{allow, nil}, record.Kill},
		{"behind what kills", []*Filter{nought, nil}, record.Kill}, {"ahead of what kills", []*Filter{nil, nought}, 0},
	} {
		if a := All(x.l, record.Record{}); a != x.want {
			t.Errorf("All, one that there isn't, %s: %#x; want %#x", x.what, uint32(a), uint32(x.want))
		}
	}
}

// P6.2: each filter is asked of the record, those too that come behind one that kills.
func TestAllAsksEach(t *testing.T) {
	echo := mustLoad(t, insn.Load(0), insn.Insn{Code: 0x44, K: uint32(record.Errno)}, reta)
	if a := All([]*Filter{echo}, record.Record{Number: 38}); a != record.Errno+38 {
		t.Errorf("All: %#x", uint32(a))
	}
	l := saying(t, record.Allow, record.Kill, record.Errno, record.Kill, record.Log)
	for n := range int64(3) {
		All(l, record.Record{})
		for _, f := range l {
			wantCounts(t, "one of all", f, n+1, n+1)
		}
	}
	many := slices.Repeat([]*Filter{echo}, 1000)
	if a := All(many, record.Record{Number: 7}); a != record.Errno+7 {
		t.Errorf("All of 1000: %#x", uint32(a))
	}
	wantCounts(t, "1000 times", echo, 1001, 3003)
}

// P6.2: All of filters by chance: the strongest, by a list of the kinds' strengths.
func TestAllByWords(t *testing.T) {
	r := rand.New(rand.NewSource(2))
	kinds := []record.Action{0x80000000, 0x00050000, 0x7ffc0000, 0x7fff0000, 0, 0x12340000}
	rank := func(a record.Action) int { return max(slices.Index(kinds[:4], a&0xffff0000), 0) }
	for range 20000 {
		want, least := record.Allow, 3
		var said []record.Action
		for range r.Intn(7) {
			said = append(said, kinds[min(r.Intn(12), 5)]+record.Action(r.Intn(4)))
		}
		for i := len(said) - 1; i >= 0; i-- {
			if rank(said[i]) < least {
				want, least = said[i], rank(said[i])
			}
		}
		if a := All(saying(t, said...), record.Record{}); a != want {
			t.Fatalf("All of %x: %#x; want %#x", said, uint32(a), uint32(want))
		}
	}
}

// R6: what Load was handed may be written over: it isn't kept; neither is it changed, nor the room behind it.
func TestLoadKeepsNothing(t *testing.T) {
	room := []insn.Insn{insn.Load(0), reta, ret(8), ret(9), ret(10)}
	was := slices.Clone(room)
	f := mustLoad(t, room[:2]...)
	g, _ := Load(room[:2])
	for _, f := range []*Filter{f, g} {
		f.Run(record.Record{Number: 4})
		f.Traces(record.Record{Number: 4})
		if !slices.Equal(room, was) {
			t.Errorf("what was handed in is now %v", room)
		}
	}
	clear(room)
	for _, f := range []*Filter{f, g} {
		wantRun(t, "written over", f, record.Record{Number: 4}, 4, 2)
		if got := f.Insns(); f.Len() != 2 || !slices.Equal(got, was[:2]) {
			t.Errorf("written over: Insns: %v", got)
		}
	}
}

// R6: what is answered may be written over: neither the filter nor another answer changes.
func TestAnswersAreNew(t *testing.T) {
	l := []insn.Insn{insn.Load(0), tax, reta}
	f := mustLoad(t, l...)
	first, second := f.Insns(), f.Insns()
	clear(first[:cap(first)])
	if !slices.Equal(second, l) || !slices.Equal(f.Insns(), l) {
		t.Error("an answer of Insns shares memory with the filter or with another answer")
	}
	wantRun(t, "written over", f, record.Record{Number: 4}, 4, 3)
	one, other := f.Traces(record.Record{Number: 4}), f.Traces(record.Record{Number: 5})
	clear(one[:cap(one)])
	if !slices.Equal(other, []Trace{{0, 5, 0}, {1, 5, 5}, {2, 5, 5}}) {
		t.Errorf("an answer of Traces shares memory with another one: %v", other)
	}
	wantTraces(t, "written over", f, record.Record{Number: 4}, Trace{0, 4, 0}, Trace{1, 4, 4}, Trace{2, 4, 4})
}

// R6: All leaves the list of filters as it was, the room behind it too, which is not looked at.
func TestAllLeavesFilters(t *testing.T) {
	room := saying(t, record.Allow, record.Log, record.Kill, record.Kill)
	was := slices.Clone(room)
	if a := All(room[:2], record.Record{}); a != record.Log {
		t.Errorf("All: %#x", uint32(a))
	}
	if !slices.Equal(room, was) {
		t.Error("All changes what it is handed")
	}
	wantCounts(t, "in the room behind", room[2], 0, 0)
}

// R8: what a run answers depends neither on how often, nor on what of it was run ahead.
func TestRunsAlike(t *testing.T) {
	f := mustLoad(t, insn.Load(0), insn.Insn{Code: 0x15, Jt: 2, K: 1}, insn.Insn{Code: 0x0c}, reta, ldx(50), ld(60), st(0), ldmem(0), insn.Insn{Code: 0x0c}, reta)
	for range 50 {
		wantRun(t, "the long way", f, record.Record{Number: 1}, 110, 8)
		wantRun(t, "the short way", f, record.Record{Number: 2}, 2, 4)
	}
	if a, b := mustLoad(t, ret(1)), mustLoad(t, ret(1)); a == b {
		t.Error("Load answered one filter twice")
	}
}

// P6.1, R7: of a nil filter Kill, in no steps; all else is zero values.
func TestNil(t *testing.T) {
	var f *Filter
	for _, r := range []record.Record{{}, {Number: 2, Arch: record.Arch, At: 8, Args: [6]uint64{1, 2, 3, 4, 5, 6}}} {
		wantRun(t, "nil", f, r, 0x80000000, 0)
		wantTraces(t, "nil", f, r)
	}
	if n := f.Len(); n != 0 {
		t.Errorf("nil: Len: %d", n)
	}
	if l := f.Insns(); len(l) != 0 {
		t.Errorf("nil: Insns: %v", l)
	}
	wantCounts(t, "nil", f, 0, 0)
}

// P1: a filter that Load didn't make has no instructions: it ends, and lets nothing through.
func TestZeroFilter(t *testing.T) {
	var f Filter
	wantRun(t, "zero", &f, record.Record{Number: 2}, record.Kill, 0)
	wantTraces(t, "zero", &f, record.Record{Number: 2})
	if a := All([]*Filter{&f}, record.Record{}); a != record.Kill {
		t.Errorf("zero: All: %#x", uint32(a))
	}
	if f.Len() != 0 || len(f.Insns()) != 0 {
		t.Errorf("zero: %d, %v", f.Len(), f.Insns())
	}
}
