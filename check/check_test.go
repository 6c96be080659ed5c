package check

import (
	"math"
	"math/rand"
	"slices"
	"sync"
	"testing"

	"pinfold/api"
	"pinfold/insn"
)

// known is the codes that a filter may have, written out as numbers.
var known = []uint16{
	0x20, 0x00, 0x60, 0x80, 0x01, 0x61, 0x81, 0x02, 0x03, 0x06, 0x16, 0x07, 0x87, 0x05, 0x84,
	0x04, 0x0c, 0x14, 0x1c, 0x24, 0x2c, 0x34, 0x3c, 0x44, 0x4c, 0x54, 0x5c, 0x64, 0x6c, 0x74, 0x7c, 0xa4, 0xac,
	0x15, 0x1d, 0x25, 0x2d, 0x35, 0x3d, 0x45, 0x4d,
}

// branches is the codes that jump by Jt or Jf.
var branches = []uint16{0x15, 0x1d, 0x25, 0x2d, 0x35, 0x3d, 0x45, 0x4d}

// Instructions that the tests put filters together of.
var (
	ret   = insn.Insn{Code: 0x06, K: 7}
	reta  = insn.Insn{Code: 0x16}
	plain = insn.Insn{Code: 0x00, K: 9}
	bad   = insn.Insn{Code: 0x28}
)

func st(k uint32) insn.Insn       { return insn.Insn{Code: 0x02, K: k} }
func stx(k uint32) insn.Insn      { return insn.Insn{Code: 0x03, K: k} }
func ldmem(k uint32) insn.Insn    { return insn.Insn{Code: 0x60, K: k} }
func ldxmem(k uint32) insn.Insn   { return insn.Insn{Code: 0x61, K: k} }
func ja(k uint32) insn.Insn       { return insn.Insn{Code: 0x05, K: k} }
func branch(jt, jf int) insn.Insn { return insn.Insn{Code: 0x15, Jt: uint8(jt), Jf: uint8(jf), K: 5} }

// filled is n instructions, all plain but the last, a Ret.
func filled(n int) []insn.Insn {
	l := slices.Repeat([]insn.Insn{plain}, n)
	l[n-1] = ret
	return l
}

// first: as many of a filter as may be told when a test fails.
func first(l []insn.Insn) []insn.Insn { return l[:min(len(l), 12)] }

func wantCheck(t *testing.T, l []insn.Insn, want Wrong) {
	t.Helper()
	if got := Check(l); got != want {
		t.Errorf("Check of %d, %v: %d, %d; want %d, %d", len(l), first(l), got.At, got.Err, want.At, want.Err)
	}
}

func wantLoadable(t *testing.T, l ...insn.Insn) {
	t.Helper()
	wantCheck(t, l, Wrong{})
}

// follow: the places to which an instruction lets a way go, told from the chapter's words anew.
func follow(i insn.Insn, at int) []int {
	switch {
	case i.Code == 0x06 || i.Code == 0x16:
		return nil
	case i.Code == 0x05:
		return []int{at + 1 + int(i.K)}
	case slices.Contains(branches, i.Code):
		return []int{at + 1 + int(i.Jt), at + 1 + int(i.Jf)}
	}
	return []int{at + 1}
}

// ways: each way through a filter from a place on, whole; of small filters alone.
func ways(l []insn.Insn, at int) [][]int {
	to := follow(l[at], at)
	if len(to) == 0 {
		return [][]int{{at}}
	}
	var all [][]int
	for _, n := range to {
		for _, w := range ways(l, n) {
			all = append(all, append([]int{at}, w...))
		}
	}
	return all
}

// alike: what is wrong with an instruction alone, told from the chapter's words anew.
func alike(i insn.Insn, at, n int) api.Errno {
	if !slices.Contains(known, i.Code) {
		return api.ErrCode
	}
	if i.Code == 0x05 || slices.Contains(branches, i.Code) {
		for _, to := range follow(i, at) {
			if to > n-1 {
				return api.ErrJump
			}
		}
	}
	switch i.Code {
	case 0x20:
		if !slices.Contains([]uint32{0, 4, 8, 12, 16, 20, 24, 28, 32, 36, 40, 44, 48, 52, 56, 60}, i.K) {
			return api.ErrRange
		}
	case 0x60, 0x61, 0x02, 0x03:
		if i.K > 15 {
			return api.ErrRange
		}
	case 0x34:
		if i.K == 0 {
			return api.ErrRange
		}
	case 0x64, 0x74:
		if i.K > 31 {
			return api.ErrRange
		}
	}
	return api.OK
}

// told: what Check has to say of a small filter, by each of its ways.
func told(l []insn.Insn) Wrong {
	if len(l) == 0 {
		return Wrong{0, api.ErrForm}
	}
	for at, i := range l {
		if e := alike(i, at, len(l)); e != api.OK {
			return Wrong{at, e}
		}
	}
	if last := l[len(l)-1]; last.Code != 0x06 && last.Code != 0x16 {
		return Wrong{len(l) - 1, api.ErrEnd}
	}
	soonest := len(l)
	for _, way := range ways(l, 0) {
		stored := map[uint32]bool{}
		for _, at := range way {
			switch i := l[at]; i.Code {
			case 0x02, 0x03:
				stored[i.K] = true
			case 0x60, 0x61:
				if !stored[i.K] {
					soonest = min(soonest, at)
				}
			}
		}
	}
	if soonest < len(l) {
		return Wrong{soonest, api.ErrNone}
	}
	return Wrong{}
}

// some is a small filter of all kinds of instructions, by chance from r, whose every n-th number or so is a wrong one.
func some(r *rand.Rand, n int) []insn.Insn {
	l := make([]insn.Insn, 1+r.Intn(9))
	for at := range l {
		i := insn.Insn{Code: known[r.Intn(len(known))], Jt: uint8(r.Intn(4)), Jf: uint8(r.Intn(4)), K: uint32(r.Intn(16))}
		switch r.Intn(3) {
		case 0:
			i = []insn.Insn{st(0), st(1), stx(0), stx(1), ldmem(0), ldmem(1), ldxmem(0), ldxmem(1)}[r.Intn(8)]
		case 1:
			i.Code = append([]uint16{0x05, 0x05}, branches...)[r.Intn(10)]
			i.K = uint32(r.Intn(4))
		}
		if i.Code == 0x20 {
			i.K *= 4
		}
		if i.Code == 0x34 {
			i.K++
		}
		if behind := len(l) - at - 2; behind >= 0 && r.Intn(n) > 0 { // mostly jumps stay within
			i.Jt, i.Jf = min(i.Jt, uint8(behind)), min(i.Jf, uint8(behind))
			if i.Code == 0x05 {
				i.K = min(i.K, uint32(behind))
			}
		}
		if r.Intn(n) == 0 {
			i.K = []uint32{0, 3, 15, 16, 31, 32, 60, 61, 64}[r.Intn(9)]
		}
		if r.Intn(4*n) == 0 {
			i.Code = uint16(r.Intn(256))
		}
		l[at] = i
	}
	if r.Intn(n) > 0 {
		l[len(l)-1].Code = []uint16{0x06, 0x16}[r.Intn(2)]
	}
	return l
}

// someLoadable calls f with many small filters that may be loaded.
func someLoadable(t *testing.T, f func(l []insn.Insn)) {
	t.Helper()
	r := rand.New(rand.NewSource(5))
	n := 0
	for range 60000 {
		if l := some(r, 20); told(l) == (Wrong{}) {
			f(l)
			n++
		}
	}
	if n < 10000 {
		t.Fatalf("only %d filters may be loaded", n)
	}
}

// P5.1: the document's examples.
func TestExamples(t *testing.T) {
	wantLoadable(t, insn.Return(1))
	wantCheck(t, []insn.Insn{insn.Load(0)}, Wrong{0, api.ErrEnd})
}

// P5.1, R5: of none ErrForm, nil or empty, at 0.
func TestCheckErrForm(t *testing.T) {
	wantCheck(t, nil, Wrong{0, api.ErrForm})
	wantCheck(t, []insn.Insn{}, Wrong{0, api.ErrForm})
	wantCheck(t, filled(3)[:0], Wrong{0, api.ErrForm})
}

// P5.1, R2: more than 4096 are ErrMany at 4096, whatever else is wrong with them; 4096 are not.
func TestCheckErrMany(t *testing.T) {
	wantCheck(t, filled(4095), Wrong{})
	wantCheck(t, filled(4096), Wrong{})
	for _, n := range []int{4097, 4098, 5000, 8192, 65536, 1 << 20} {
		wantCheck(t, filled(n), Wrong{4096, api.ErrMany})
		wantCheck(t, slices.Repeat([]insn.Insn{bad}, n), Wrong{4096, api.ErrMany})
	}
	wantCheck(t, slices.Repeat([]insn.Insn{bad}, 4096), Wrong{0, api.ErrCode})
	wantCheck(t, slices.Repeat([]insn.Insn{plain}, 4096), Wrong{4095, api.ErrEnd})
}

// P5.1: of all codes that there are, those that aren't known are ErrCode, wherever they stand; the others are not.
func TestCheckErrCode(t *testing.T) {
	for n := range 1 << 16 {
		code := uint16(n)
		one := insn.Insn{Code: code, K: 4}
		want := Wrong{}
		if !slices.Contains(known, code) {
			want = Wrong{At: 1, Err: api.ErrCode}
		}
		wantCheck(t, []insn.Insn{st(4), one, ret, ret, ret, ret, ret}, want)
		if want.Err == api.ErrCode {
			wantCheck(t, []insn.Insn{one}, Wrong{0, api.ErrCode})
			wantCheck(t, []insn.Insn{ret, ret, one}, Wrong{2, api.ErrCode})
		}
	}
}

// P5.1, R2: an unknown code is ErrCode ahead of what its jumps and its number would be.
func TestCheckErrCodeFirst(t *testing.T) {
	for _, code := range []uint16{0x0d, 0x55, 0x28, 0x68, 0x21, 0x0a, 0x0b, 0x120, 0x105, 0x115, 0x8005, 0xff06} {
		wantCheck(t, []insn.Insn{{Code: code, Jt: 255, Jf: 255, K: math.MaxUint32}, ret}, Wrong{0, api.ErrCode})
	}
}

// P5.1: Ja goes by K: to the last one, not beyond it, up to the greatest number that there is.
func TestCheckErrJumpOfJa(t *testing.T) {
	for _, n := range []int{2, 3, 10, 300, 4096} {
		for _, at := range []int{0, (n - 2) / 2, n - 2} {
			last := uint32(n - 2 - at)
			for _, k := range []uint32{0, last / 2, last} {
				l := filled(n)
				l[at] = insn.Insn{Code: 0x05, Jt: 255, Jf: 255, K: k} // its Jt and Jf mean nothing
				wantCheck(t, l, Wrong{})
			}
			for _, k := range []uint32{last + 1, last + 2, 5000, 1 << 16, 1<<31 - 1, 1 << 31, -uint32(at) - 2, -uint32(at) - 1, math.MaxUint32 - 1, math.MaxUint32} {
				l := filled(n)
				l[at] = ja(k)
				wantCheck(t, l, Wrong{at, api.ErrJump})
			}
		}
	}
	wantCheck(t, []insn.Insn{ret, ja(0)}, Wrong{1, api.ErrJump})
}

// P5.1: the other jumps go by Jt and by Jf, each of them to the last one, not beyond it; K and where nobody comes by make no difference.
func TestCheckErrJumpOfBranches(t *testing.T) {
	for _, code := range branches {
		for _, k := range []uint32{0, 3, math.MaxUint32} {
			for n := 2; n < 300; n += 7 {
				for _, at := range []int{0, n / 3, n - 2} {
					last := n - 2 - at
					for _, j := range [][2]int{{0, 0}, {last, 0}, {0, last}, {last, last}, {last + 1, 0}, {0, last + 1}, {last + 1, last + 1}, {255, 0}, {0, 255}} {
						if j[0] > 255 || j[1] > 255 {
							continue
						}
						l := filled(n)
						l[at] = insn.Insn{Code: code, Jt: uint8(j[0]), Jf: uint8(j[1]), K: k}
						want := Wrong{}
						if j[0] > last || j[1] > last {
							want = Wrong{at, api.ErrJump}
						}
						wantCheck(t, l, want)
					}
				}
			}
		}
		wantCheck(t, []insn.Insn{ret, {Code: code}}, Wrong{1, api.ErrJump})
		wantCheck(t, []insn.Insn{ret, {Code: code, Jf: 2}, ret, ret}, Wrong{1, api.ErrJump})
	}
}

// P5.1: what is no jump may have any Jt and Jf.
func TestCheckNoJump(t *testing.T) {
	for _, code := range known {
		if code&7 != 5 {
			wantLoadable(t, st(4), insn.Insn{Code: code, Jt: 255, Jf: 255, K: 4}, ret)
		}
	}
}

// P5.1: a load by Abs is at a multiple of four, 60 at most.
func TestCheckErrRangeOfAbs(t *testing.T) {
	ks := []uint32{1 << 8, 1 << 16, 1 << 31, math.MaxUint32 - 3, math.MaxUint32}
	for k := range uint32(300) {
		ks = append(ks, k)
	}
	for _, k := range ks {
		want := Wrong{}
		if k%4 != 0 || k > 60 {
			want = Wrong{1, api.ErrRange}
		}
		wantCheck(t, []insn.Insn{plain, {Code: 0x20, K: k}, ret}, want)
	}
}

// P5.1: a scratch number that is loaded or stored, into or from A or X, is below 16.
func TestCheckErrRangeOfScratch(t *testing.T) {
	all := make([]insn.Insn, 0, 18)
	for k := range uint32(16) {
		all = append(all, st(k))
	}
	ks := []uint32{1 << 8, 1<<8 + 3, 1 << 16, 1<<16 + 1, 1 << 31, math.MaxUint32}
	for k := range uint32(100) {
		ks = append(ks, k)
	}
	for _, one := range []func(uint32) insn.Insn{st, stx, ldmem, ldxmem} {
		for _, k := range ks {
			want := Wrong{}
			if k > 15 {
				want = Wrong{16, api.ErrRange}
			}
			wantCheck(t, append(slices.Clip(all), one(k), ret), want)
		}
	}
}

// P5.1: nothing is divided by K 0, nothing is moved by K 32 or more.
func TestCheckErrRangeOfAlu(t *testing.T) {
	for _, k := range []uint32{0, 1, 2, 15, 16, 30, 31, 32, 33, 63, 64, 255, 256, 1 << 16, 1 << 31, 1<<31 + 5, math.MaxUint32} {
		for _, code := range known {
			if code&7 != 4 {
				continue
			}
			want := Wrong{}
			if code == 0x34 && k == 0 || (code == 0x64 || code == 0x74) && k > 31 {
				want = Wrong{1, api.ErrRange}
			}
			wantCheck(t, []insn.Insn{plain, {Code: code, K: k}, ret}, want)
		}
	}
}

// P5.1: whatever else has a K may have any.
func TestCheckAnyNumber(t *testing.T) {
	for _, code := range []uint16{0x00, 0x80, 0x01, 0x81, 0x06, 0x16, 0x07, 0x87, 0x84} {
		for _, k := range []uint32{0, 1, 16, 32, 61, 64, 1 << 31, math.MaxUint32} {
			wantLoadable(t, insn.Insn{Code: code, K: k}, ret)
		}
	}
}

// P5.1, R2: instruction by instruction: the first one that is wrong counts, whatever is wrong with it.
func TestCheckErrorsByPlaces(t *testing.T) {
	wrong := []struct {
		insn insn.Insn
		err  api.Errno
	}{
		{bad, api.ErrCode}, {ja(100), api.ErrJump}, {branch(0, 100), api.ErrJump}, {insn.Load(62), api.ErrRange},
		{ldmem(16), api.ErrRange}, {st(16), api.ErrRange}, {insn.Insn{Code: 0x34}, api.ErrRange}, {insn.Insn{Code: 0x64, K: 32}, api.ErrRange},
	}
	for _, x := range wrong {
		for _, y := range wrong {
			wantCheck(t, []insn.Insn{ldmem(0), x.insn, y.insn, ret}, Wrong{1, x.err})
			wantCheck(t, []insn.Insn{ret, plain, x.insn, plain, y.insn}, Wrong{2, x.err})
		}
		wantCheck(t, []insn.Insn{ldmem(0), ret, x.insn}, Wrong{2, x.err})
		wantCheck(t, []insn.Insn{ldmem(0), x.insn, plain}, Wrong{1, x.err})
	}
}

// P5.1: the last is a Ret, of K or of A; of all others that are known ErrEnd at it, or, where it jumps, ErrJump.
func TestCheckErrEnd(t *testing.T) {
	for _, code := range known {
		want := api.ErrEnd
		switch {
		case code == 0x06 || code == 0x16:
			want = api.OK
		case code&7 == 5:
			want = api.ErrJump
		}
		for n := range 5 {
			at := n
			if want == api.OK {
				at = 0
			}
			wantCheck(t, append(slices.Repeat([]insn.Insn{ret}, n), insn.Insn{Code: code, K: 4}), Wrong{at, want})
		}
	}
	wantLoadable(t, reta)
	wantLoadable(t, ret, plain, reta)
	wantCheck(t, []insn.Insn{ldmem(3), plain}, Wrong{1, api.ErrEnd}) // R2: ahead of ErrNone
}

// P5.1: a scratch number that is loaded is stored ahead, from A or from X, itself and no other one.
func TestCheckErrNone(t *testing.T) {
	for _, load := range []func(uint32) insn.Insn{ldmem, ldxmem} {
		for _, store := range []func(uint32) insn.Insn{st, stx} {
			for k := range uint32(16) {
				wantLoadable(t, store(k), load(k), ret)
				wantLoadable(t, store(k), plain, load(k), load(k), ret)
				wantCheck(t, []insn.Insn{load(k), ret}, Wrong{0, api.ErrNone})
				wantCheck(t, []insn.Insn{plain, load(k), store(k), ret}, Wrong{1, api.ErrNone})
				wantCheck(t, []insn.Insn{load(k), load(k), ret}, Wrong{0, api.ErrNone})
				var l []insn.Insn
				for other := range uint32(16) {
					if other != k {
						l = append(l, store(other))
					}
				}
				for other := range uint32(16) {
					want := Wrong{}
					if other == k {
						want = Wrong{15, api.ErrNone}
					}
					wantCheck(t, append(slices.Clip(l), load(other), ret), want)
				}
			}
		}
	}
}

// P5.1: on each way: stored on one of two is ErrNone; stored on both, or ahead of where they part, is not.
func TestCheckErrNoneByWays(t *testing.T) {
	for _, x := range []struct {
		what string
		l    []insn.Insn
		want Wrong
	}{
		{"jumped over by Jt", []insn.Insn{branch(1, 0), st(3), ldmem(3), ret}, Wrong{2, api.ErrNone}},
		{"jumped over by Jf", []insn.Insn{branch(0, 1), st(3), ldmem(3), ret}, Wrong{2, api.ErrNone}},
		{"jumped over by Ja", []insn.Insn{ja(1), st(3), ldmem(3), ret}, Wrong{2, api.ErrNone}},
		{"stored on both", []insn.Insn{branch(0, 2), st(3), ja(1), stx(3), ldmem(3), ret}, Wrong{}},
		{"one on the one, another on the other", []insn.Insn{branch(0, 2), st(3), ja(1), st(4), ldmem(3), ret}, Wrong{4, api.ErrNone}},
		{"stored ahead", []insn.Insn{st(3), branch(0, 1), plain, ldxmem(3), ret}, Wrong{}},
		{"stored ahead, another on one", []insn.Insn{st(3), branch(0, 1), st(4), ldxmem(3), ldmem(4), ret}, Wrong{4, api.ErrNone}},
		{"loaded on the way that stores", []insn.Insn{branch(0, 2), st(3), ldmem(3), ret}, Wrong{}},
		{"loaded on the way that doesn't", []insn.Insn{branch(2, 0), st(3), ret, ldmem(3), ret}, Wrong{3, api.ErrNone}},
		{"both ways to one", []insn.Insn{st(3), branch(1, 1), ret, ldmem(3), ret}, Wrong{}},
		{"not stored, both ways to one", []insn.Insn{branch(1, 1), st(3), ldmem(3), ret}, Wrong{2, api.ErrNone}},
		{"three ways, one without", []insn.Insn{branch(3, 0), branch(0, 1), st(3), ja(1), plain, ldmem(3), ret}, Wrong{5, api.ErrNone}},
		{"stored again where they meet", []insn.Insn{branch(0, 1), st(3), st(3), ldmem(3), ret}, Wrong{}},
		{"a way ends at a Ret", []insn.Insn{branch(2, 0), st(3), ja(1), ret, ldmem(3), ret}, Wrong{}},
		{"by a way behind which it is stored later", []insn.Insn{branch(1, 0), st(3), branch(0, 0), ldmem(3), st(3), ret}, Wrong{3, api.ErrNone}},
		{"a load stores nothing", []insn.Insn{st(1), ldmem(1), ldxmem(2), ret}, Wrong{2, api.ErrNone}},
		{"the first of two by its place", []insn.Insn{branch(1, 0), ja(1), ldmem(5), ldmem(4), ret}, Wrong{2, api.ErrNone}},
		{"the first by its place on the later way", []insn.Insn{branch(2, 0), st(5), ja(1), ldmem(5), ldmem(4), ret}, Wrong{3, api.ErrNone}},
	} {
		if got := Check(x.l); got != x.want {
			t.Errorf("%s: %d, %d; want %d, %d", x.what, got.At, got.Err, x.want.At, x.want.Err)
		}
	}
}

// P5.1: to an instruction to which no way goes all are stored; what stands there takes nothing from others, and gives them nothing.
func TestCheckErrNoneBesideWays(t *testing.T) {
	for _, x := range []struct {
		what string
		l    []insn.Insn
		want Wrong
	}{
		{"behind a Ret", []insn.Insn{ret, ldmem(3), ldxmem(15), ret}, Wrong{}},
		{"behind a Ja", []insn.Insn{ja(1), ldmem(3), ret}, Wrong{}},
		{"by jumps of such", []insn.Insn{ret, branch(0, 1), plain, ldmem(3), ja(0), ldxmem(4), ret}, Wrong{}},
		{"from it into a way", []insn.Insn{st(3), ja(1), plain, ldmem(3), ret}, Wrong{}},
		{"jumps from it into a way", []insn.Insn{st(3), ja(2), ja(1), branch(0, 0), ldmem(3), ret}, Wrong{}},
		{"stored there alone", []insn.Insn{ja(1), st(3), ldmem(3), ret}, Wrong{2, api.ErrNone}},
		{"stored there and jumped from there", []insn.Insn{ja(2), st(3), ja(0), ldmem(3), ret}, Wrong{3, api.ErrNone}},
	} {
		if got := Check(x.l); got != x.want {
			t.Errorf("%s: %d, %d; want %d, %d", x.what, got.At, got.Err, x.want.At, x.want.Err)
		}
	}
}

// P5.1: what is said of small filters of all kinds is what each of their ways tells, gone one by one.
func TestCheckByWays(t *testing.T) {
	r := rand.New(rand.NewSource(1))
	seen := map[api.Errno]int{}
	for range 100000 {
		l := some(r, 4+r.Intn(40))
		want := told(l)
		if got := Check(l); got != want {
			t.Fatalf("Check of %v: %d, %d; want %d, %d", l, got.At, got.Err, want.At, want.Err)
		}
		seen[want.Err]++
	}
	for _, e := range []api.Errno{api.OK, api.ErrCode, api.ErrJump, api.ErrRange, api.ErrEnd, api.ErrNone} {
		if seen[e] < 500 {
			t.Errorf("%d filters alone were of error %d", seen[e], e)
		}
	}
}

// P1: of a filter with more ways than could be gone one by one each call ends; P5.1: a number that just one of them leaves out is ErrNone.
func TestManyWays(t *testing.T) {
	l := slices.Repeat([]insn.Insn{branch(1, 0)}, 4096)
	l[0] = st(3)
	l[4093], l[4094], l[4095] = ldmem(3), ldmem(3), ret
	l[4092] = branch(0, 0)
	wantLoadable(t, l...)
	if n := Longest(l); n != 4096 {
		t.Errorf("Longest: %d", n)
	}
	if reached := Reached(l); len(reached) != 4096 || slices.Contains(reached, false) {
		t.Error("Reached leaves some out")
	}
	if !slices.Equal(Strip(l), l) {
		t.Error("Strip changes what no way leaves out")
	}
	l[0], l[2000] = branch(1, 0), st(3)
	wantCheck(t, l, Wrong{4093, api.ErrNone})
	l[1999] = branch(0, 0) // the one that jumped over it
	wantCheck(t, l, Wrong{})
}

// unloadable is filters of each of the things that may be wrong.
func unloadable() [][]insn.Insn {
	return [][]insn.Insn{
		nil, {}, filled(4097), {bad, ret}, {ret, bad, ret}, {ja(1), ret}, {ret, branch(0, 1), ret}, {insn.Load(61), ret},
		{ja(1), st(16), ret}, {ret, {Code: 0x34}, ret}, {{Code: 0x74, K: 32}, ret}, {plain}, {ret, plain}, {ldmem(0), ret}, {ja(1), ret, ldxmem(9), ret},
	}
}

// P5.2: of what may not be loaded none is reached, none is the longest, and Strip answers it as it is, in new memory.
func TestUnloadable(t *testing.T) {
	for _, l := range unloadable() {
		if Check(l) == (Wrong{}) {
			t.Fatalf("%v may be loaded", first(l))
		}
		if reached := Reached(l); len(reached) != 0 {
			t.Errorf("Reached of %v: %v", first(l), reached)
		}
		if n := Longest(l); n != 0 {
			t.Errorf("Longest of %v: %d", first(l), n)
		}
		want := slices.Clone(l)
		got := Strip(l)
		if !slices.Equal(got, want) {
			t.Errorf("Strip of %v: %v", first(want), first(got))
		}
		clear(got[:cap(got)])
		if !slices.Equal(l, want) {
			t.Errorf("Strip of %v answers what it was handed", first(want))
		}
	}
}

// loadables is filters that may be loaded, what is reached in them, how long they are, and what is left of them.
var loadables = []struct {
	what    string
	l       []insn.Insn
	reached []bool
	longest int
	left    []insn.Insn
}{
	{"a Ret", []insn.Insn{ret}, []bool{true}, 1, []insn.Insn{ret}},
	{"straight on", []insn.Insn{st(1), ldmem(1), plain, reta}, []bool{true, true, true, true}, 4, []insn.Insn{st(1), ldmem(1), plain, reta}},
	{"behind a Ret", []insn.Insn{plain, reta, plain, ret}, []bool{true, true, false, false}, 2, []insn.Insn{plain, reta}},
	{"over by Ja", []insn.Insn{ja(2), ret, plain, reta}, []bool{true, false, false, true}, 2, []insn.Insn{ja(0), reta}},
	{"over by Ja, by Ja", []insn.Insn{ja(1), ret, ja(2), ret, ret, plain, reta}, []bool{true, false, true, false, false, true, true}, 4, []insn.Insn{ja(0), ja(0), plain, reta}},
	{"both ways", []insn.Insn{branch(1, 0), plain, reta}, []bool{true, true, true}, 3, []insn.Insn{branch(1, 0), plain, reta}},
	{"the longer by Jt", []insn.Insn{branch(1, 0), reta, plain, plain, ret}, []bool{true, true, true, true, true}, 4, []insn.Insn{branch(1, 0), reta, plain, plain, ret}},
	{"the longer by Jf", []insn.Insn{branch(3, 0), plain, plain, ret, reta}, []bool{true, true, true, true, true}, 4, []insn.Insn{branch(3, 0), plain, plain, ret, reta}},
	{"the longest in the midst", []insn.Insn{branch(4, 0), branch(0, 2), plain, ret, ret, reta}, []bool{true, true, true, true, true, true}, 4, []insn.Insn{branch(4, 0), branch(0, 2), plain, ret, ret, reta}},
	{"over by Jt", []insn.Insn{branch(2, 0), ret, plain, reta}, []bool{true, true, false, true}, 2, []insn.Insn{branch(1, 0), ret, reta}},
	{"over by Jf", []insn.Insn{branch(0, 2), ret, plain, reta}, []bool{true, true, false, true}, 2, []insn.Insn{branch(0, 1), ret, reta}},
	{"over by both", []insn.Insn{branch(3, 1), ret, reta, plain, ret}, []bool{true, false, true, false, true}, 2, []insn.Insn{branch(1, 0), reta, ret}},
	{"to one by both", []insn.Insn{branch(2, 2), ret, ret, reta}, []bool{true, false, false, true}, 2, []insn.Insn{branch(0, 0), reta}},
	{"what was left out may not be reached from such", []insn.Insn{ja(4), branch(0, 1), plain, ja(0), ret, reta}, []bool{true, false, false, false, false, true}, 2, []insn.Insn{ja(0), reta}},
	{"long ways that nobody goes", []insn.Insn{ja(3), plain, plain, plain, reta}, []bool{true, false, false, false, true}, 2, []insn.Insn{ja(0), reta}},
	{
		"what no jump needs stays", []insn.Insn{{Code: 0x05, Jt: 8, Jf: 9, K: 1}, ret, {Code: 0x20, Jt: 6, Jf: 5, K: 60}, {Code: 0x4d, Jt: 1, Jf: 2, K: 77}, ret, ret, {Code: 0x16, Jt: 1, Jf: 2, K: 3}},
		[]bool{true, false, true, true, false, true, true}, 4,
		[]insn.Insn{{Code: 0x05, Jt: 8, Jf: 9, K: 0}, {Code: 0x20, Jt: 6, Jf: 5, K: 60}, {Code: 0x4d, Jt: 0, Jf: 1, K: 77}, ret, {Code: 0x16, Jt: 1, Jf: 2, K: 3}},
	},
}

// P5.2: which are reached, how long the longest way is, what is left.
func TestLoadables(t *testing.T) {
	for _, x := range loadables {
		wantLoadable(t, x.l...)
		if got := Reached(x.l); !slices.Equal(got, x.reached) {
			t.Errorf("%s: Reached: %v; want %v", x.what, got, x.reached)
		}
		if got := Longest(x.l); got != x.longest {
			t.Errorf("%s: Longest: %d; want %d", x.what, got, x.longest)
		}
		if got := Strip(x.l); !slices.Equal(got, x.left) {
			t.Errorf("%s: Strip: %v; want %v", x.what, got, x.left)
		}
	}
}

// P5.2: each code that jumps by Jt and Jf goes both ways, and is moved.
func TestStripOfEachBranch(t *testing.T) {
	for _, code := range branches {
		l := filled(257)
		l[0] = insn.Insn{Code: code, Jt: 255, Jf: 253, K: 2}
		l[254] = ret
		want := []insn.Insn{{Code: code, Jt: 1, Jf: 0, K: 2}, ret, ret}
		if got := Strip(l); !slices.Equal(got, want) {
			t.Errorf("Strip by %#x: %v; want %v", code, got, want)
		}
		if n := Longest(l); n != 2 {
			t.Errorf("Longest by %#x: %d", code, n)
		}
	}
}

// P5.2: ways by far jumps; what is left of them is as far as it has to be.
func TestStripOfLong(t *testing.T) {
	l := filled(4096)
	l[0] = ja(4094)
	if got := Strip(l); !slices.Equal(got, []insn.Insn{ja(0), ret}) {
		t.Errorf("Strip: %v", first(got))
	}
	l[0], l[1] = plain, ja(4000)
	left := append([]insn.Insn{plain, ja(0)}, l[4002:]...)
	if got := Strip(l); !slices.Equal(got, left) {
		t.Errorf("Strip: %v, %d in all", first(got), len(got))
	}
	if n := Longest(l); n != 96 {
		t.Errorf("Longest: %d", n)
	}
	l = filled(1000)
	l[0], l[1], l[400] = branch(1, 0), ja(900), ja(99)
	left = slices.Delete(slices.Clone(l), 401, 500)
	left[1], left[400] = ja(801), ja(0)
	if got := Strip(l); !slices.Equal(got, left) {
		t.Errorf("Strip: %v, %d in all", first(got), len(got))
	}
	if n := Longest(filled(4096)); n != 4096 {
		t.Errorf("Longest of 4096: %d", n)
	}
}

// P5.2: which are reached, and how long the longest way is, as each way tells, gone one by one.
func TestReachedAndLongestByWays(t *testing.T) {
	someLoadable(t, func(l []insn.Insn) {
		want, longest := make([]bool, len(l)), 0
		for _, way := range ways(l, 0) {
			longest = max(longest, len(way))
			for _, at := range way {
				want[at] = true
			}
		}
		if got := Reached(l); !slices.Equal(got, want) {
			t.Fatalf("Reached of %v: %v; want %v", l, got, want)
		}
		if got := Longest(l); got != longest {
			t.Fatalf("Longest of %v: %d; want %d", l, got, longest)
		}
	})
}

// bare: an instruction without what it jumps by.
func bare(i insn.Insn) insn.Insn {
	switch {
	case i.Code == 0x05:
		i.K = 0
	case slices.Contains(branches, i.Code):
		i.Jt, i.Jf = 0, 0
	}
	return i
}

// P5.2: what is left may be loaded, all of it is reached, and each way through it goes by the same instructions as ahead.
func TestStripByWays(t *testing.T) {
	someLoadable(t, func(l []insn.Insn) {
		left := Strip(l)
		wantLoadable(t, left...)
		places, n := make([]int, len(l)), 0
		for at, is := range Reached(l) {
			places[at] = n
			if !is {
				continue
			}
			if n == len(left) || bare(left[n]) != bare(l[at]) {
				t.Fatalf("Strip of %v: %v", l, left)
			}
			n++
		}
		if n != len(left) || slices.Contains(Reached(left), false) || Longest(left) != Longest(l) {
			t.Fatalf("Strip of %v: %v", l, left)
		}
		want := ways(l, 0)
		for _, way := range want {
			for i, at := range way {
				way[i] = places[at]
			}
		}
		if !slices.EqualFunc(ways(left, 0), want, slices.Equal[[]int]) {
			t.Fatalf("Strip of %v goes other ways: %v", l, left)
		}
		if !slices.Equal(Strip(left), left) {
			t.Fatalf("Strip of %v leaves less the second time", l)
		}
	})
}

// P5.2: how many of each class, of whatever may not be loaded too: the lowest three bits of all codes that there are.
func TestCount(t *testing.T) {
	if c := Count(nil); c != (Counts{}) {
		t.Errorf("Count(nil): %v", c)
	}
	if c := Count([]insn.Insn{}); c != (Counts{}) {
		t.Errorf("Count of none: %v", c)
	}
	l := []insn.Insn{insn.Load(0), ldmem(3), ldxmem(3), st(3), stx(3), stx(4), insn.Mask(1), ja(0), branch(0, 0), branch(1, 1), ret, reta, ret, ret, {Code: 0x87}}
	if c := Count(l); c != (Counts{2, 1, 1, 2, 1, 3, 4, 1}) {
		t.Errorf("Count: %v", c)
	}
	if c := Count(filled(5000)); c != (Counts{0: 4999, 6: 1}) {
		t.Errorf("Count of 5000: %v", c)
	}
	all := make([]insn.Insn, 1<<16)
	for n := range all {
		all[n].Code = uint16(n)
		want := Counts{}
		want[n%8] = 1
		if c := Count(all[n : n+1]); c != want {
			t.Fatalf("Count of %#x: %v", n, c)
		}
	}
	if c := Count(all); c != (Counts{8192, 8192, 8192, 8192, 8192, 8192, 8192, 8192}) {
		t.Errorf("Count of all: %v", c)
	}
}

// R6: what is handed in stays as it was, the spare room behind it too, which is not looked at.
func TestHandedInStays(t *testing.T) {
	lists := unloadable()
	for _, x := range loadables {
		lists = append(lists, x.l)
	}
	for _, l := range lists {
		room := append(append(slices.Clone(l), ret), slices.Repeat([]insn.Insn{ret}, 300)...)
		was := slices.Clone(room)
		short := room[:len(l)]
		if Check(short) != Check(slices.Clip(short)) {
			t.Errorf("Check of %v looks at the room behind it", first(l))
		}
		Reached(short)
		Longest(short)
		Strip(short)
		Count(short)
		if !slices.Equal(room, was) {
			t.Errorf("%v was changed", first(l))
		}
	}
}

// R6: an answer shares no memory with what was handed in, nor with another answer.
func TestAnswersAreNew(t *testing.T) {
	for _, x := range loadables {
		l := slices.Clone(x.l)
		spoiltReached, reached := Reached(l), Reached(l)
		clear(spoiltReached[:cap(spoiltReached)])
		spoilt, left := Strip(l), Strip(l)
		clear(spoilt[:cap(spoilt)])
		if !slices.Equal(l, x.l) {
			t.Errorf("%s: Strip answers what it was handed", x.what)
		}
		clear(l)
		if !slices.Equal(reached, x.reached) || !slices.Equal(left, x.left) {
			t.Errorf("%s: an answer shares memory", x.what)
		}
	}
}

// R8: what was asked ahead, wrong filters too, changes no answer; nor does it that many ask at once.
func TestAskedAgain(t *testing.T) {
	wrong := unloadable()
	var w sync.WaitGroup
	for range 8 {
		w.Go(func() {
			for range 50 {
				for _, l := range wrong {
					if Check(l) != Check(l) || Longest(l) != 0 {
						t.Error("a wrong filter is another one the second time")
					}
				}
				for _, x := range loadables {
					if Check(x.l) != (Wrong{}) || Longest(x.l) != x.longest || !slices.Equal(Reached(x.l), x.reached) || !slices.Equal(Strip(x.l), x.left) {
						t.Errorf("%s: another answer", x.what)
					}
				}
			}
		})
	}
	w.Wait()
}
