package record

import (
	"math"
	"sync"
	"testing"

	"pinfold/api"
)

// rising is a record each of whose bytes differs from all others: its bytes are 1 to 64.
var rising = Record{
	Number: 0x04030201,
	Arch:   0x08070605,
	At:     0x100f0e0d0c0b0a09,
	Args: [6]uint64{
		0x1817161514131211, 0x201f1e1d1c1b1a19, 0x2827262524232221,
		0x302f2e2d2c2b2a29, 0x3837363534333231, 0x403f3e3d3c3b3a39,
	},
}

// full is a record of the greatest numbers.
var full = Record{
	Number: math.MaxUint32,
	Arch:   math.MaxUint32,
	At:     math.MaxUint64,
	Args:   [6]uint64{math.MaxUint64, math.MaxUint64, math.MaxUint64, math.MaxUint64, math.MaxUint64, math.MaxUint64},
}

// counted is 64 bytes, one above the other, from first on.
func counted(first int) (b [api.RecordSize]byte) {
	for i := range b {
		b[i] = byte(first + i)
	}
	return b
}

// part: the number of n bytes of b from at on.
func part(b [api.RecordSize]byte, at, n int) uint64 {
	var all uint64
	for i := n - 1; i >= 0; i-- {
		all = all*256 + uint64(b[at+i])
	}
	return all
}

// whole is the record that a record's bytes have to be: put together by hand.
func whole(b [api.RecordSize]byte) Record {
	return Record{
		Number: uint32(part(b, 0, 4)),
		Arch:   uint32(part(b, 4, 4)),
		At:     part(b, 8, 8),
		Args:   [6]uint64{part(b, 16, 8), part(b, 24, 8), part(b, 32, 8), part(b, 40, 8), part(b, 48, 8), part(b, 56, 8)},
	}
}

// samples is records' bytes of all sorts: each bit alone, each byte full alone, runs of bytes.
func samples() [][api.RecordSize]byte {
	l := [][api.RecordSize]byte{{}, full.Bytes()}
	for i := range api.RecordSize {
		var b [api.RecordSize]byte
		b[i] = 0xff
		l = append(l, b)
		for bit := range 8 {
			b[i] = 1 << bit
			l = append(l, b)
		}
	}
	for first := range 256 {
		l = append(l, counted(first))
	}
	return l
}

// The types: the constants are the numbers that the document gives them.
func TestConstants(t *testing.T) {
	if Arch != 0xc000003e {
		t.Errorf("Arch: %#x", Arch)
	}
	if AtNumber != 0 || AtArch != 4 || AtAt != 8 || AtArgs != 16 {
		t.Errorf("places: %d, %d, %d, %d", AtNumber, AtArch, AtAt, AtArgs)
	}
	if Kill != 0x80000000 || Errno != 0x00050000 || Log != 0x7ffc0000 || Allow != 0x7fff0000 {
		t.Errorf("kinds: %#x, %#x, %#x, %#x", uint32(Kill), uint32(Errno), uint32(Log), uint32(Allow))
	}
}

// P4.1: each part's bytes stand behind those of the part ahead of it, the lowest first; and back.
func TestBytesAndOf(t *testing.T) {
	for _, x := range []struct {
		what   string
		record Record
		bytes  [api.RecordSize]byte
	}{
		{"nothing", Record{}, [api.RecordSize]byte{}},
		{"rising", rising, counted(1)},
		{"a number", Record{Number: 0x01bd}, [api.RecordSize]byte{0: 0xbd, 1: 1}},
		{"an arch", Record{Arch: Arch}, [api.RecordSize]byte{4: 0x3e, 7: 0xc0}},
		{"a place", Record{At: 1<<63 | 2}, [api.RecordSize]byte{8: 2, 15: 0x80}},
		{"the first argument", Record{Args: [6]uint64{1<<32 | 5}}, [api.RecordSize]byte{16: 5, 20: 1}},
		{"the last argument", Record{Args: [6]uint64{5: 0x80000000000000ff}}, [api.RecordSize]byte{56: 0xff, 63: 0x80}},
	} {
		if b := x.record.Bytes(); b != x.bytes {
			t.Errorf("bytes of %s: %v; want %v", x.what, b, x.bytes)
		}
		if r := Of(x.bytes); r != x.record {
			t.Errorf("Of %s: %+v; want %+v", x.what, r, x.record)
		}
	}
	for i, x := range full.Bytes() {
		if x != 0xff {
			t.Errorf("byte %d of the greatest numbers: %d", i, x)
		}
	}
}

// P4.1: what is read from bytes is what stands there, and is laid there again, each bit alone too.
func TestBytesOfOf(t *testing.T) {
	for _, b := range samples() {
		r := Of(b)
		if want := whole(b); r != want {
			t.Errorf("Of %v: %+v; want %+v", b, r, want)
		}
		if back := r.Bytes(); back != b {
			t.Errorf("bytes of Of %v: %v", b, back)
		}
	}
}

// P4.1: at each multiple of four up to 60 the number of the four bytes there, the lowest first.
func TestWord(t *testing.T) {
	for _, b := range samples() {
		r := Of(b)
		for at := 0; at <= 60; at += 4 {
			if n, ok := r.Word(uint32(at)); !ok || uint64(n) != part(b, at, 4) {
				t.Errorf("Word(%d) of %v: %#x, %v", at, b, n, ok)
			}
		}
	}
}

// P4.1: a record's parts are found where the constants say.
func TestWordOfParts(t *testing.T) {
	for _, x := range []struct {
		at   uint32
		want uint32
	}{
		{AtNumber, 0x04030201}, {AtArch, 0x08070605}, {AtAt, 0x0c0b0a09}, {AtAt + 4, 0x100f0e0d},
		{AtArgs, 0x14131211}, {AtArgs + 4, 0x18171615}, {56, 0x3c3b3a39}, {60, 0x403f3e3d},
	} {
		if n, ok := rising.Word(x.at); !ok || n != x.want {
			t.Errorf("Word(%d): %#x, %v; want %#x", x.at, n, ok, x.want)
		}
	}
}

// P4.1, R3: false, and 0, at what is no multiple of four, and above 60, up to the greatest number that there is.
func TestWordOfNone(t *testing.T) {
	for at := range uint32(4096) {
		if at%4 == 0 && at <= 60 {
			continue
		}
		if n, ok := full.Word(at); ok || n != 0 {
			t.Errorf("Word(%d): %#x, %v", at, n, ok)
		}
	}
	for bit := 6; bit < 32; bit++ {
		at := uint32(1) << bit
		for _, near := range []uint32{at - 4, at - 1, at, at + 1, at + 4, at + 60, -at} {
			if near <= 60 {
				continue
			}
			if n, ok := full.Word(near); ok || n != 0 {
				t.Errorf("Word(%d): %#x, %v", near, n, ok)
			}
		}
	}
	for back := range uint32(256) {
		if n, ok := full.Word(math.MaxUint32 - back); ok || n != 0 {
			t.Errorf("Word(%d): %#x, %v", math.MaxUint32-back, n, ok)
		}
	}
}

// P4.1: where an argument's halves stand; below 0 the first one's, above 5 the last one's.
func TestHalf(t *testing.T) {
	for _, x := range []struct {
		arg       int
		low, high uint32
	}{
		{0, 16, 20}, {1, 24, 28}, {2, 32, 36}, {3, 40, 44}, {4, 48, 52}, {5, 56, 60},
		{-1, 16, 20}, {-2, 16, 20}, {-1 << 32, 16, 20}, {math.MinInt + 1, 16, 20}, {math.MinInt, 16, 20},
		{6, 56, 60}, {7, 56, 60}, {255, 56, 60}, {1 << 29, 56, 60}, {1 << 32, 56, 60}, {1 << 61, 56, 60}, {math.MaxInt, 56, 60},
	} {
		if at := Half(x.arg, false); at != x.low {
			t.Errorf("Half(%d, false): %d; want %d", x.arg, at, x.low)
		}
		if at := Half(x.arg, true); at != x.high {
			t.Errorf("Half(%d, true): %d; want %d", x.arg, at, x.high)
		}
	}
}

// P4.1: an argument's two halves, as they are found by Half, are the argument.
func TestHalvesOfArguments(t *testing.T) {
	for _, b := range samples() {
		r := Of(b)
		for arg, want := range r.Args {
			low, ok := r.Word(Half(arg, false))
			high, is := r.Word(Half(arg, true))
			if !ok || !is || uint64(high)<<32|uint64(low) != want {
				t.Errorf("argument %d of %+v: %#x, %#x", arg, r, low, high)
			}
		}
	}
}

// P4.2: of all high sixteen bits that there are, just three are a kind of their own; the others count as Kill. The low ones don't count. Of an Errno they are its number.
func TestKindAndNumber(t *testing.T) {
	lows := []uint32{0, 1, 5, 13, 4095, 4096, 0x7fff, 0x8000, 0xffff}
	for high := range uint32(1 << 16) {
		want := Action(0x80000000)
		if high == 0x0005 || high == 0x7ffc || high == 0x7fff {
			want = Action(high << 16)
		}
		for _, low := range lows {
			a := Action(high<<16 | low)
			if kind := a.Kind(); kind != want {
				t.Fatalf("Kind of %#x: %#x; want %#x", uint32(a), uint32(kind), uint32(want))
			}
			number := api.OK
			if high == 0x0005 {
				number = api.Errno(low)
			}
			if got := a.Number(); got != number {
				t.Fatalf("Number of %#x: %d; want %d", uint32(a), got, number)
			}
		}
	}
}

// P4.2: every number that sixteen bits can have is an Errno's, those too that Fail doesn't lay there.
func TestNumberOfErrno(t *testing.T) {
	for low := range uint32(1 << 16) {
		if got := Action(0x00050000 | low).Number(); got != api.Errno(low) {
			t.Fatalf("Number of %#x: %d", 0x00050000|low, got)
		}
	}
}

// P4.2: Fail answers an Errno with that number, back by Number; below 0 with 0, above 4095 with 4095.
func TestFail(t *testing.T) {
	for e := range 4096 {
		a := Fail(api.Errno(e))
		if a != Action(0x00050000+e) || a.Kind() != Errno || a.Number() != api.Errno(e) {
			t.Errorf("Fail(%d): %#x", e, uint32(a))
		}
	}
	for _, e := range []int{-1, -2, -13, -4095, -65536, -1 << 32, math.MinInt + 13, math.MinInt} {
		if a := Fail(api.Errno(e)); a != 0x00050000 {
			t.Errorf("Fail(%d): %#x", e, uint32(a))
		}
	}
	for _, e := range []int{4096, 4097, 4108, 8192, 65535, 65536, 65549, 1 << 31, 1<<32 + 13, math.MaxInt} {
		if a := Fail(api.Errno(e)); a != 0x00050fff {
			t.Errorf("Fail(%d): %#x", e, uint32(a))
		}
	}
}

// ranked is actions, those of the strongest kind first; of one kind several, whose low bits would tell another order.
var ranked = [][]Action{
	{0x80000000, 0x80000001, 0x8000ffff, 0, 7, 0x0000ffff, 0x00040000, 0x0004ffff, 0x00060000, 0x7ffbffff, 0x7ffd0000, 0x7ffeffff, 0x80010000, 0xffff0000, 0xffffffff},
	{0x00050000, 0x00050001, 0x0005000d, 0x00050fff, 0x0005ffff},
	{0x7ffc0000, 0x7ffc0001, 0x7ffcffff},
	{0x7fff0000, 0x7fff0001, 0x7fffffff},
}

// P4.2: of each two actions the one of the stronger kind counts, wherever it stands; of two of one kind the first; as it was handed in, its low bits too.
func TestStronger(t *testing.T) {
	for i, l := range ranked {
		for j, m := range ranked {
			for _, a := range l {
				for _, b := range m {
					want := a
					if j < i {
						want = b
					}
					if got := Stronger(a, b); got != want {
						t.Errorf("Stronger(%#x, %#x): %#x; want %#x", uint32(a), uint32(b), uint32(got), uint32(want))
					}
				}
			}
		}
	}
}

// P4.2: the document's example.
func TestExample(t *testing.T) {
	if a := Stronger(Log, Fail(13)); a != 0x0005000d {
		t.Errorf("Stronger(Log, Fail(13)): %#x", uint32(a))
	}
}

// R6, R8: what is answered is a value of its own; what was asked ahead, wrongly too, changes no answer, nor does it that many ask at once.
func TestAskedAgain(t *testing.T) {
	var w sync.WaitGroup
	for range 8 {
		w.Go(func() {
			for range 200 {
				b := rising.Bytes()
				back := Of(b)
				clear(b[:])
				if back != rising || rising.Bytes() != counted(1) {
					t.Error("the bytes, or what they are of, are other ones")
				}
				if n, ok := rising.Word(62); n != 0 || ok {
					t.Errorf("Word(62): %#x, %v", n, ok)
				}
				if n, ok := rising.Word(60); n != 0x403f3e3d || !ok {
					t.Errorf("Word(60): %#x, %v", n, ok)
				}
				if Stronger(Action(7), Kill) != 7 || Stronger(Allow, Log) != Log {
					t.Error("another one is stronger")
				}
			}
		})
	}
	w.Wait()
}
