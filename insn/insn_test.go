package insn

import (
	"bytes"
	"slices"
	"sync"
	"testing"

	"pinfold/api"
)

// known is the document's own list, written out as numbers: constants that were changed would else change along with what they are held against.
var known = []uint16{
	0x20, 0x00, 0x60, 0x80, // Ld with Abs, Imm, Mem, Len
	0x01, 0x61, 0x81, // Ldx with Imm, Mem, Len
	0x02, 0x03, // St, Stx
	0x06, 0x16, // Ret with K, A
	0x07, 0x87, // Misc with Tax, Txa
	0x05,       // Jmp with Ja
	0x84,       // Alu with Neg
	0x04, 0x0c, // Alu with Add and K, X, and so on
	0x14, 0x1c,
	0x24, 0x2c,
	0x34, 0x3c,
	0x44, 0x4c,
	0x54, 0x5c,
	0x64, 0x6c,
	0x74, 0x7c,
	0xa4, 0xac,
	0x15, 0x1d, // Jmp with Jeq and K, X, and so on
	0x25, 0x2d,
	0x35, 0x3d,
	0x45, 0x4d,
}

// laid is instructions and their bytes: each byte differs from its neighbours, and the greatest and the least are among them.
var laid = []struct {
	insn  Insn
	bytes [api.InsnSize]byte
}{
	{Insn{}, [8]byte{}},
	{Insn{Code: 0x20, K: 4}, [8]byte{32, 0, 0, 0, 4, 0, 0, 0}},
	{Insn{Code: 0x0201, Jt: 3, Jf: 4, K: 0x08070605}, [8]byte{1, 2, 3, 4, 5, 6, 7, 8}},
	{Insn{Code: 0xf7f8, Jt: 0xf6, Jf: 0xf5, K: 0xf1f2f3f4}, [8]byte{0xf8, 0xf7, 0xf6, 0xf5, 0xf4, 0xf3, 0xf2, 0xf1}},
	{Insn{Code: 0xffff, Jt: 0xff, Jf: 0xff, K: 0xffffffff}, [8]byte{255, 255, 255, 255, 255, 255, 255, 255}},
	{Insn{Code: 0x8000, Jt: 0x80, Jf: 1, K: 0x80000000}, [8]byte{0, 0x80, 0x80, 1, 0, 0, 0, 0x80}},
	{Insn{Code: 0x00ff, K: 0x00ff00ff}, [8]byte{0xff, 0, 0, 0, 0xff, 0, 0xff, 0}},
	{Insn{Code: 0xff00, Jf: 9, K: 0xff00ff00}, [8]byte{0, 0xff, 0, 9, 0, 0xff, 0, 0xff}},
}

// pattern is n bytes, no eight of which are like the eight behind them.
func pattern(n int) []byte {
	b := make([]byte, n)
	for i := range b {
		b[i] = byte(i*7 + i/8*31 + i>>11)
	}
	return b
}

// insns is what n instructions' bytes have to be decoded to: the bytes put together by hand.
func insns(b []byte) []Insn {
	l := []Insn{}
	for ; len(b) >= 8; b = b[8:] {
		l = append(l, Insn{
			Code: uint16(b[0]) + uint16(b[1])*256,
			Jt:   b[2],
			Jf:   b[3],
			K:    uint32(b[4]) + uint32(b[5])*256 + uint32(b[6])*65536 + uint32(b[7])*16777216,
		})
	}
	return l
}

// The types: the constants are the numbers that the document gives them.
func TestConstants(t *testing.T) {
	for _, c := range []struct {
		what      string
		got, want []int
	}{
		{"classes", []int{Ld, Ldx, St, Stx, Alu, Jmp, Ret, Misc}, []int{0, 1, 2, 3, 4, 5, 6, 7}},
		{"Imm, Abs, Mem, Len", []int{Imm, Abs, Mem, Len}, []int{0, 0x20, 0x60, 0x80}},
		{"Add to Xor", []int{Add, Sub, Mul, Div, Or, And, Lsh, Rsh, Neg, Xor}, []int{0, 0x10, 0x20, 0x30, 0x40, 0x50, 0x60, 0x70, 0x80, 0xa0}},
		{"Ja to Jset", []int{Ja, Jeq, Jgt, Jge, Jset}, []int{0, 0x10, 0x20, 0x30, 0x40}},
		{"K, X, A, Tax, Txa", []int{K, X, A, Tax, Txa}, []int{0, 8, 0x10, 0, 0x80}},
	} {
		if !slices.Equal(c.got, c.want) {
			t.Errorf("%s: %#x; want %#x", c.what, c.got, c.want)
		}
	}
}

// P3.1: a code's class is its lowest three bits, whatever the others are.
func TestClass(t *testing.T) {
	for n := range 1 << 16 {
		if got := Class(uint16(n)); int(got) != n%8 {
			t.Fatalf("Class(%#x): %d; want %d", n, got, n%8)
		}
	}
}

// P3.1: of all codes that there are, just those on the list are known: none with the upper byte set, or with a bit of another one's.
func TestKnown(t *testing.T) {
	if len(known) != 41 {
		t.Fatalf("the list has %d codes", len(known))
	}
	for n := range 1 << 16 {
		code := uint16(n)
		if want := slices.Contains(known, code); Known(code) != want {
			t.Errorf("Known(%#x): %v", code, !want)
		}
	}
}

// P3.2: the document's example.
func TestExample(t *testing.T) {
	want := [api.InsnSize]byte{32, 0, 0, 0, 4, 0, 0, 0}
	if b := Load(4).Bytes(); b != want {
		t.Errorf("Load(4)'s bytes: %v; want %v", b, want)
	}
	if i := Of(want); i != Load(4) {
		t.Errorf("back: %+v", i)
	}
}

// P3.2: an instruction's bytes, and back.
func TestBytesAndOf(t *testing.T) {
	for _, x := range laid {
		if b := x.insn.Bytes(); b != x.bytes {
			t.Errorf("bytes of %+v: %v; want %v", x.insn, b, x.bytes)
		}
		if i := Of(x.bytes); i != x.insn {
			t.Errorf("Of %v: %+v; want %+v", x.bytes, i, x.insn)
		}
	}
}

// P3.2: each of the 64 bits stands in the byte where it belongs, alone, and comes back from there.
func TestEachBit(t *testing.T) {
	for bit := range 64 {
		var b [api.InsnSize]byte
		b[bit/8] = 1 << (bit % 8)
		whole := uint64(1) << bit
		want := Insn{Code: uint16(whole), Jt: uint8(whole >> 16), Jf: uint8(whole >> 24), K: uint32(whole >> 32)}
		if i := Of(b); i != want {
			t.Errorf("Of bit %d: %+v; want %+v", bit, i, want)
		}
		if got := want.Bytes(); got != b {
			t.Errorf("bytes of bit %d: %v; want %v", bit, got, b)
		}
	}
}

// P3.2: Encode sets one behind the other, in their order.
func TestEncode(t *testing.T) {
	var l []Insn
	var want []byte
	for n, x := range laid {
		if got := Encode(l); !bytes.Equal(got, want) {
			t.Errorf("Encode of %d: %v; want %v", n, got, want)
		}
		l = append(l, x.insn)
		want = append(want, x.bytes[:]...)
	}
	if got := Encode(l); !bytes.Equal(got, want) {
		t.Errorf("Encode of all: %v; want %v", got, want)
	}
}

// P3.2, R5: nothing is encoded to nothing, and back, nil or empty.
func TestNothing(t *testing.T) {
	if b := Encode(nil); len(b) != 0 {
		t.Errorf("Encode(nil): %v", b)
	}
	if b := Encode([]Insn{}); len(b) != 0 {
		t.Errorf("Encode of an empty list: %v", b)
	}
	for _, b := range [][]byte{nil, {}} {
		if l, e := Decode(b); len(l) != 0 || e != api.OK {
			t.Errorf("Decode of nothing: %v, %d", l, e)
		}
	}
}

// P3.2: Decode answers what was encoded, of whatever codes, up to 4096 instructions.
func TestDecode(t *testing.T) {
	for _, n := range []int{1, 2, 3, 8, 255, 256, 257, 1000, 4095, 4096} {
		b := pattern(n * 8)
		l, e := Decode(b)
		if e != api.OK || !slices.Equal(l, insns(b)) {
			t.Errorf("Decode of %d instructions: %d of them, %d", n, len(l), e)
			continue
		}
		if back := Encode(l); !bytes.Equal(back, b) {
			t.Errorf("Encode of %d decoded instructions isn't what was decoded", n)
		}
	}
}

// P3.2: Encode takes more than Decode does: no limit is named for it.
func TestEncodeOfMany(t *testing.T) {
	b := pattern(4097 * 8)
	if got := Encode(insns(b)); !bytes.Equal(got, b) {
		t.Error("Encode of 4097 instructions isn't their bytes")
	}
}

// P3.2, R3: a length that is no multiple of eight is ErrForm; R2: ahead of ErrMany.
func TestDecodeErrForm(t *testing.T) {
	for _, n := range []int{0, 8, 16, 4088 * 8, 4095 * 8, 4096 * 8, 5000 * 8, 1 << 20} {
		for more := 1; more < 8; more++ {
			if l, e := Decode(pattern(n + more)); l != nil || e != api.ErrForm {
				t.Errorf("Decode of %d bytes: %d instructions, %d; want ErrForm", n+more, len(l), e)
			}
		}
	}
}

// P3.2, R3: more than 4096 instructions are ErrMany.
func TestDecodeErrMany(t *testing.T) {
	for _, n := range []int{4097, 4098, 5000, 8192, 65536, 65537, 1 << 20} {
		if l, e := Decode(pattern(n * 8)); l != nil || e != api.ErrMany {
			t.Errorf("Decode of %d instructions: %d of them, %d; want ErrMany", n, len(l), e)
		}
	}
}

// P3.2: the instructions that are put together of numbers, each part at its place, the others zero.
func TestMakers(t *testing.T) {
	for _, k := range []uint32{0, 1, 4, 255, 256, 0x12345678, 0x7fffffff, 0x80000000, 0xffffffff} {
		for _, x := range []struct {
			what      string
			got, want Insn
		}{
			{"Load", Load(k), Insn{0x20, 0, 0, k}},
			{"Return", Return(k), Insn{0x06, 0, 0, k}},
			{"Skip", Skip(k), Insn{0x05, 0, 0, k}},
			{"Mask", Mask(k), Insn{0x54, 0, 0, k}},
			{"If Jeq", If(Jeq, k, 2, 1), Insn{0x15, 2, 1, k}},
			{"If Jgt", If(Jgt, k, 0, 255), Insn{0x25, 0, 255, k}},
			{"If Jge", If(Jge, k, 255, 0), Insn{0x35, 255, 0, k}},
			{"If Jset", If(Jset, k, 128, 127), Insn{0x45, 128, 127, k}},
			{"If Ja", If(Ja, k, 7, 8), Insn{0x05, 7, 8, k}},
		} {
			if x.got != x.want {
				t.Errorf("%s of %#x: %+v; want %+v", x.what, k, x.got, x.want)
			}
		}
	}
}

// P3.2: If lays the bits of whatever it is handed upon Jmp's, known or not.
func TestIfOfAnyHow(t *testing.T) {
	for n := range 1 << 16 {
		want := Insn{Code: uint16(n | 5), Jt: 3, Jf: 4, K: 9}
		if got := If(uint16(n), 9, 3, 4); got != want {
			t.Fatalf("If(%#x): %+v; want %+v", n, got, want)
		}
	}
}

// P3.1, P3.2: what is put together with the codes that it is meant for is known.
func TestMadeIsKnown(t *testing.T) {
	for _, i := range []Insn{Load(0), Return(0), Skip(0), Mask(0), If(Jeq, 0, 0, 0), If(Jgt, 0, 0, 0), If(Jge, 0, 0, 0), If(Jset, 0, 0, 0), If(Jeq|X, 0, 0, 0)} {
		if !Known(i.Code) {
			t.Errorf("%+v isn't known", i)
		}
	}
}

// R6: what is handed in stays as it was, the spare room behind it too.
func TestHandedInStays(t *testing.T) {
	room := pattern(64 * 8)
	for n := range 64 {
		if _, e := Decode(room[:n*8]); e != api.OK || !bytes.Equal(room, pattern(64*8)) {
			t.Fatalf("Decode of %d changed what it was handed, or answered %d", n, e)
		}
	}
	l := insns(room)
	for n := range 64 {
		Encode(l[:n])
		if !slices.Equal(l, insns(room)) {
			t.Fatalf("Encode of %d changed what it was handed", n)
		}
	}
}

// R6: an answer shares no memory with what was handed in, nor with another answer.
func TestAnswersAreNew(t *testing.T) {
	b := pattern(80)
	want := insns(b)
	first, _ := Decode(b)
	second, _ := Decode(b)
	clear(b)
	clear(first[:cap(first)])
	if !slices.Equal(second, want) {
		t.Error("an answer of Decode shares memory")
	}
	one, two := Encode(second), Encode(second)
	clear(second)
	clear(one[:cap(one)])
	if !bytes.Equal(two, pattern(80)) {
		t.Error("an answer of Encode shares memory")
	}
}

// R8: what was asked ahead, wrong bytes too, changes no answer; nor does it that many ask at once.
func TestAskedAgain(t *testing.T) {
	b := pattern(4096 * 8)
	want := insns(b)
	var w sync.WaitGroup
	for range 8 {
		w.Go(func() {
			for range 20 {
				if l, e := Decode(b[1:]); l != nil || e != api.ErrForm {
					t.Errorf("Decode of a byte too few: %d instructions, %d", len(l), e)
				}
				l, e := Decode(b)
				if e != api.OK || !slices.Equal(l, want) {
					t.Errorf("Decode: %d instructions, %d", len(l), e)
				}
				if !bytes.Equal(Encode(want), b) {
					t.Error("Encode isn't the bytes")
				}
			}
		})
	}
	w.Wait()
}
