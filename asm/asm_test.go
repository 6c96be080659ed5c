package asm

import (
	"fmt"
	"math"
	"math/big"
	"math/rand"
	"slices"
	"strings"
	"sync"
	"testing"

	"pinfold/api"
	"pinfold/insn"
)

// words is the document's own list, the codes written out as numbers, and, as a letter each, which fields stand behind a word: k, t, f.
var words = []struct {
	word   string
	code   uint16
	behind string
}{
	{"ldlen", 0x80, ""}, {"ldxlen", 0x81, ""}, {"reta", 0x16, ""}, {"tax", 0x07, ""}, {"txa", 0x87, ""}, {"neg", 0x84, ""},
	{"addx", 0x0c, ""}, {"subx", 0x1c, ""}, {"mulx", 0x2c, ""}, {"divx", 0x3c, ""}, {"orx", 0x4c, ""}, {"andx", 0x5c, ""},
	{"lshx", 0x6c, ""}, {"rshx", 0x7c, ""}, {"xorx", 0xac, ""},
	{"ld", 0x00, "k"}, {"ldabs", 0x20, "k"}, {"ldmem", 0x60, "k"}, {"ldx", 0x01, "k"}, {"ldxmem", 0x61, "k"},
	{"st", 0x02, "k"}, {"stx", 0x03, "k"}, {"ret", 0x06, "k"}, {"ja", 0x05, "k"},
	{"add", 0x04, "k"}, {"sub", 0x14, "k"}, {"mul", 0x24, "k"}, {"div", 0x34, "k"}, {"or", 0x44, "k"}, {"and", 0x54, "k"},
	{"lsh", 0x64, "k"}, {"rsh", 0x74, "k"}, {"xor", 0xa4, "k"},
	{"jeq", 0x15, "ktf"}, {"jgt", 0x25, "ktf"}, {"jge", 0x35, "ktf"}, {"jset", 0x45, "ktf"},
	{"jeqx", 0x1d, "tf"}, {"jgtx", 0x2d, "tf"}, {"jgex", 0x3d, "tf"}, {"jsetx", 0x4d, "tf"},
}

// branches is the codes that jump by Jt or Jf.
var branches = []uint16{0x15, 0x1d, 0x25, 0x2d, 0x35, 0x3d, 0x45, 0x4d}

// example is the instructions of the document's example.
func example() []insn.Insn {
	return []insn.Insn{{Code: 0x20}, {Code: 0x15, Jf: 1, K: 2}, {Code: 0x06, K: 7}, {Code: 0x06, K: 9}}
}

// toldLine: an instruction's line, told from the chapter's words anew.
func toldLine(i insn.Insn) string {
	for _, w := range words {
		if w.code != i.Code {
			continue
		}
		if !strings.Contains(w.behind, "k") && i.K != 0 || !strings.Contains(w.behind, "t") && (i.Jt != 0 || i.Jf != 0) {
			break
		}
		switch w.behind {
		case "k":
			return fmt.Sprintf("%s %d", w.word, i.K)
		case "ktf":
			return fmt.Sprintf("%s %d %d %d", w.word, i.K, i.Jt, i.Jf)
		case "tf":
			return fmt.Sprintf("%s %d %d", w.word, i.Jt, i.Jf)
		}
		return w.word
	}
	return fmt.Sprintf("raw %d %d %d %d", i.Code, i.Jt, i.Jf, i.K)
}

// toldNumber: a text as a number, told from the chapter's words anew.
func toldNumber(s string) (uint64, bool) {
	base, digits := int64(10), "0123456789"
	if len(s) >= 2 && s[0] == '0' && s[1] == 'x' {
		base, digits, s = 16, "0123456789abcdef", s[2:]
	}
	if len(s) < 1 || len(s) > 20 || len(s) > 1 && s[0] == '0' {
		return 0, false
	}
	n := new(big.Int)
	for at := range len(s) {
		d := strings.IndexByte(digits, s[at])
		if d < 0 {
			return 0, false
		}
		n.Mul(n, big.NewInt(base)).Add(n, big.NewInt(int64(d)))
	}
	if !n.IsUint64() {
		return 0, false
	}
	return n.Uint64(), true
}

// toldParse: a text of at most 65536 bytes as instructions, told from the chapter's words anew.
func toldParse(s string) ([]insn.Insn, int, api.Errno) {
	var l []insn.Insn
	for at := 1; s != ""; at++ {
		end := strings.IndexByte(s+"\n", '\n')
		text := s[:end]
		s = s[min(end+1, len(s)):]
		text = text[:strings.IndexByte(text+"#", '#')]
		var said []string
		for _, w := range strings.Split(text, " ") {
			if w != "" {
				said = append(said, w)
			}
		}
		if said == nil {
			continue
		}
		i, e := toldInsn(said[0], said[1:])
		if e == 0 && len(l) == 4096 {
			e = 205
		}
		if e != 0 {
			return nil, at, e
		}
		l = append(l, i)
	}
	return l, 0, 0
}

func toldInsn(word string, numbers []string) (insn.Insn, api.Errno) {
	i, behind, there := insn.Insn{}, "ctfk", word == "raw"
	for _, w := range words {
		if w.word == word {
			i.Code, behind, there = w.code, w.behind, true
		}
	}
	switch {
	case !there:
		return insn.Insn{}, 202
	case len(numbers) != len(behind):
		return insn.Insn{}, 203
	}
	for at := range len(behind) {
		n, ok := toldNumber(numbers[at])
		switch which := behind[at]; {
		case !ok:
			return insn.Insn{}, 202
		case which == 'c' && n < 1<<16:
			i.Code = uint16(n)
		case which == 't' && n < 1<<8:
			i.Jt = uint8(n)
		case which == 'f' && n < 1<<8:
			i.Jf = uint8(n)
		case which == 'k' && n < 1<<32:
			i.K = uint32(n)
		default:
			return insn.Insn{}, 204
		}
	}
	return i, 0
}

func wantNumber(t *testing.T, s string, want uint64, is bool) {
	t.Helper()
	if n, ok := Number(s); n != want || ok != is {
		t.Errorf("Number(%.40q): %d, %v; want %d, %v", s, n, ok, want, is)
	}
}

func wantText(t *testing.T, want string, l ...insn.Insn) {
	t.Helper()
	if got := Text(l); got != want {
		t.Errorf("Text of %v: %q; want %q", l, got, want)
	}
}

func wantListing(t *testing.T, want string, l ...insn.Insn) {
	t.Helper()
	if got := Listing(l); got != want {
		t.Errorf("Listing of %v: %q; want %q", l, got, want)
	}
}

func wantParse(t *testing.T, s string, want ...insn.Insn) {
	t.Helper()
	if l, at, e := Parse(s); at != 0 || e != api.OK || !slices.Equal(l, want) {
		t.Errorf("Parse of %.200q (%d bytes): %d instructions, %d, %d; want %d", s, len(s), len(l), at, e, len(want))
	}
}

// wantWrong: R3, too: beside an error there are no instructions.
func wantWrong(t *testing.T, s string, line int, err api.Errno) {
	t.Helper()
	if l, at, e := Parse(s); len(l) != 0 || at != line || e != err {
		t.Errorf("Parse of %.200q (%d bytes): %d instructions, %d, %d; want %d, %d", s, len(s), len(l), at, e, line, err)
	}
}

// P7.1: numbers of base ten and of base sixteen, the edges of both.
func TestNumber(t *testing.T) {
	for _, x := range []struct {
		s string
		n uint64
	}{
		{"0", 0}, {"1", 1}, {"9", 9}, {"10", 10}, {"42", 42}, {"100", 100}, {"255", 255}, {"1234567890", 1234567890},
		{"4294967295", 1<<32 - 1}, {"4294967296", 1 << 32},
		{"9223372036854775807", 1<<63 - 1}, {"9223372036854775808", 1 << 63},
		{"9999999999999999999", 9999999999999999999}, {"10000000000000000000", 10000000000000000000},
		{"18446744073709551609", math.MaxUint64 - 6}, {"18446744073709551614", math.MaxUint64 - 1}, {"18446744073709551615", math.MaxUint64},
		{"0x0", 0}, {"0x1", 1}, {"0x9", 9}, {"0xa", 10}, {"0xf", 15}, {"0x10", 16}, {"0xff", 255}, {"0x100", 256},
		{"0xabcdef", 0xabcdef}, {"0x1234567890abcdef", 0x1234567890abcdef}, {"0xc000003e", 0xc000003e}, {"0xffffffff", 1<<32 - 1},
		{"0x8000000000000000", 1 << 63}, {"0xfffffffffffffffe", math.MaxUint64 - 1}, {"0xffffffffffffffff", math.MaxUint64},
	} {
		wantNumber(t, x.s, x.n, true)
	}
}

// P7.1, R3: what is no number is 0, false.
func TestNoNumber(t *testing.T) {
	for _, s := range []string{
		"", " ", "x", "0x", "x0", "a", "f", "0xg", "0x1g", "0xG", "0xA", "0xF", "0xaB", "0x1A1", "0XFF", "0X1", "1x1", "0xx1", "0x0x1", "10x1", "00x1",
		"00", "01", "000", "007", "0123", "00000000000000000001", "0x00", "0x01", "0x0ff", "0x00000000000000001",
		"+1", "-1", "-0", "+0", "0x-1", "0x+1", "1-", "1_000", "0x1_0", "_1", "1_", "0x_1", "1,0", "1.0", "1.", ".1", "1e3", "1e", "0b1", "0o7", "0b", "0o",
		" 1", "1 ", "\t1", "1\n", "1\r", "1 2", "1\x00", "\x001", "1#", "\xff", "1\xff", "٣", "²", "１", "0x１", "ten", "NaN", "inf",
		"18446744073709551616", "18446744073709551617", "18446744073709551625", "18446744073709551700", "18446744073709560000", "20000000000000000000", "99999999999999999999",
		"100000000000000000000", "184467440737095516150", "1000000000000000000000000",
		"0x10000000000000000", "0x1ffffffffffffffff", "0xfffffffffffffffff", "0xffffffffffffffffffff", "0xfffffffffffffffffffff", "0x100000000000000000000",
		strings.Repeat("0", 20), strings.Repeat("1", 21), strings.Repeat("9", 100000), "0x" + strings.Repeat("f", 100000), strings.Repeat("A", 100000),
	} {
		wantNumber(t, s, 0, false)
	}
}

// P7.1: all texts of up to two bytes, and all of up to four of the bytes at which something turns.
func TestNumberOfAllShort(t *testing.T) {
	hold := func(s string) {
		want, is := toldNumber(s)
		wantNumber(t, s, want, is)
	}
	for a := range 256 {
		hold(string([]byte{byte(a)}))
		for b := range 256 {
			hold(string([]byte{byte(a), byte(b)}))
			hold(string([]byte{'0', 'x', byte(a), byte(b)}))
		}
	}
	some := "0159afgxAFX+-_/: "
	for at := range len(some) * len(some) * len(some) * len(some) {
		n := len(some)
		hold(string([]byte{some[at%n], some[at/n%n], some[at/n/n%n], some[at/n/n/n]}))
	}
}

// P7.1: around the powers of two, in both bases; and digits by chance, of all lengths about twenty.
func TestNumberOfMany(t *testing.T) {
	hold := func(s string) {
		want, is := toldNumber(s)
		wantNumber(t, s, want, is)
	}
	for bit := range 72 {
		for off := int64(-2); off <= 2; off++ {
			n := new(big.Int).Lsh(big.NewInt(1), uint(bit))
			n.Add(n, big.NewInt(off))
			hold(n.Text(10))
			hold("0x" + n.Text(16))
		}
	}
	r := rand.New(rand.NewSource(7))
	for range 20000 {
		ten, sixteen := make([]byte, 1+r.Intn(23)), make([]byte, 1+r.Intn(23))
		for i := range ten {
			ten[i] = "0123456789"[r.Intn(10)]
		}
		for i := range sixteen {
			sixteen[i] = "0123456789abcdef"[r.Intn(16)]
		}
		hold(string(ten))
		hold("1" + string(ten))
		hold(string(sixteen))
		hold("0x" + string(sixteen))
	}
}

// P7.1: a number is printed in base ten without noughts ahead, and Number reads it back.
func TestPrinted(t *testing.T) {
	for _, x := range []struct {
		n uint64
		s string
	}{
		{0, "0"}, {1, "1"}, {9, "9"}, {10, "10"}, {120, "120"}, {255, "255"}, {1000, "1000"}, {1<<32 - 1, "4294967295"}, {1 << 32, "4294967296"},
		{1<<63 - 1, "9223372036854775807"}, {1 << 63, "9223372036854775808"}, {math.MaxUint64, "18446744073709551615"},
	} {
		if s := Printed(x.n); s != x.s {
			t.Errorf("Printed(%d): %q", x.n, s)
		}
	}
	for bit := range 64 {
		for off := range uint64(5) {
			n := uint64(1)<<bit + off - 2
			if s := Printed(n); s != new(big.Int).SetUint64(n).String() {
				t.Errorf("Printed(%d): %q", n, s)
			}
			wantNumber(t, Printed(n), n, true)
		}
	}
}

// P7.2: the document's example.
func TestExample(t *testing.T) {
	s := "ldabs 0\njeq 2 0 1\nret 7\nret 9\n"
	l := example()
	wantParse(t, s, l...)
	wantText(t, s, l...)
	wantListing(t, "0: ldabs 0\n1: jeq 2 0 1 -> 2, 3\n2: ret 7\n3: ret 9\n", l...)
}

// P7.2: each word with its numbers, told and parsed; each number goes where it belongs.
func TestWords(t *testing.T) {
	if len(words) != 41 {
		t.Fatalf("the list has %d words", len(words))
	}
	for _, w := range words {
		i := insn.Insn{Code: w.code}
		s := w.word
		switch w.behind {
		case "k":
			i.K, s = 123456, s+" 123456"
		case "ktf":
			i.K, i.Jt, i.Jf, s = 123456, 17, 200, s+" 123456 17 200"
		case "tf":
			i.Jt, i.Jf, s = 17, 200, s+" 17 200"
		}
		wantText(t, s+"\n", i)
		wantParse(t, s+"\n", i)
		wantParse(t, s, i)
		wantWrong(t, s+" 1", 1, api.ErrForm)
		if w.behind != "" {
			wantWrong(t, s[:strings.LastIndex(s, " ")], 1, api.ErrForm)
			wantWrong(t, w.word, 1, api.ErrForm)
		}
	}
}

// P7.2: of each of all codes, known or not: its line, and raw as soon as that wouldn't tell it whole; it is parsed back.
func TestAllCodes(t *testing.T) {
	for n := range 1 << 16 {
		code := uint16(n)
		l := []insn.Insn{{Code: code}, {Code: code, Jt: 1}, {Code: code, Jf: 1}, {Code: code, K: 1}, {Code: code, K: 1 << 31}, {Code: code, Jt: 2, Jf: 3, K: 4}}
		want, listing := "", ""
		for at, i := range l {
			want += toldLine(i) + "\n"
			listing += fmt.Sprintf("%d: %s", at, toldLine(i))
			switch {
			case code == 5:
				listing += fmt.Sprintf(" -> %d", at+1+int(i.K))
			case slices.Contains(branches, code):
				listing += fmt.Sprintf(" -> %d, %d", at+1+int(i.Jt), at+1+int(i.Jf))
			}
			listing += "\n"
		}
		wantText(t, want, l...)
		wantListing(t, listing, l...)
		wantParse(t, want, l...)
		if t.Failed() {
			t.Fatalf("at code %#x", code)
		}
	}
}

// P7.2: what a line wouldn't tell whole is raw: by hand.
func TestRaw(t *testing.T) {
	wantText(t, "raw 7 0 0 1\n", insn.Insn{Code: 7, K: 1})
	wantText(t, "raw 7 255 0 0\n", insn.Insn{Code: 7, Jt: 255})
	wantText(t, "raw 32 1 0 4\n", insn.Insn{Code: 0x20, Jt: 1, K: 4})
	wantText(t, "raw 32 0 1 4\n", insn.Insn{Code: 0x20, Jf: 1, K: 4})
	wantText(t, "raw 29 1 2 3\n", insn.Insn{Code: 0x1d, Jt: 1, Jf: 2, K: 3})
	wantText(t, "raw 13 0 0 0\n", insn.Insn{Code: 0x0d})
	wantText(t, "raw 256 0 0 0\n", insn.Insn{Code: 0x100})
	wantText(t, "raw 65535 255 255 4294967295\n", insn.Insn{Code: 65535, Jt: 255, Jf: 255, K: 4294967295})
	wantText(t, "jeqx 1 2\ntax\nja 4294967295\n", insn.Insn{Code: 0x1d, Jt: 1, Jf: 2}, insn.Insn{Code: 7}, insn.Insn{Code: 5, K: 4294967295})
}

// P7.2: raw is parsed of any code, with numbers that another line tells, too.
func TestParseRaw(t *testing.T) {
	wantParse(t, "raw 7 0 0 0", insn.Insn{Code: 7})
	wantParse(t, "raw 32 0 0 4\nraw 21 1 2 3", insn.Insn{Code: 0x20, K: 4}, insn.Insn{Code: 0x15, Jt: 1, Jf: 2, K: 3})
	wantParse(t, "raw 0xffff 0xff 0xff 0xffffffff", insn.Insn{Code: 65535, Jt: 255, Jf: 255, K: 4294967295})
	wantParse(t, "raw 258 3 4 84281096", insn.Insn{Code: 0x0102, Jt: 3, Jf: 4, K: 0x05060708})
}

// P7.2, R5: nothing is told as nothing, and the other way round.
func TestNothing(t *testing.T) {
	for _, l := range [][]insn.Insn{nil, {}} {
		wantText(t, "", l...)
		wantListing(t, "", l...)
	}
	for _, s := range []string{"", "\n", "\n\n\n", " ", "   \n  \n ", "#", "# ret 7", "#\n#\n", " # nothing\n\n#ret 7", "##", "\n #\n "} {
		wantParse(t, s)
	}
}

// P7.2: blanks part words, as many as there are, ahead and behind too; what stands behind # is left out; the last line need have no end.
func TestLayout(t *testing.T) {
	seven := insn.Insn{Code: 6, K: 7}
	for _, s := range []string{
		"ret 7", "ret 7\n", " ret 7", "ret 7 ", "   ret   7   ", "\nret 7", "\n\n  ret 7\n\n", "ret 7#", "ret 7 # 8", "ret 7# 8", "ret 7 #\n", "ret 7 # # \n# x",
		"# \xff\x00\t\r no word's\nret 7 #\xff", "ret 0x7", "#ret 9\nret 7", " # ret 9\n ret 7 # ret 9\n # ret 9",
	} {
		wantParse(t, s, seven)
	}
	wantParse(t, "ret 7\n\n#\nret 7\n   \nret 7", seven, seven, seven)
	wantParse(t, "jeq  0x10   1    2 # 3\ntax#tax\n", insn.Insn{Code: 0x15, Jt: 1, Jf: 2, K: 16}, insn.Insn{Code: 7})
}

// P7.2: a word that there isn't; nothing but blanks and line ends parts words.
func TestNoWord(t *testing.T) {
	for _, s := range []string{
		"x", "rets 7", "re 7", "Ret 7", "RET 7", "ret7", "ret,7", "ret\t7", "\tret 7", "tax\r", "tax\r\n", "\rtax", "tax\x00", "\x00", "\xff", "tax\v", "tax\f", "\u00a0tax", "tax\u0085", "tax\u2003",
		"7", "0", "7 ret", "raws 1 2 3 4", "Raw 1 2 3 4", "ldi 7", "jmp 1", "jeqk 1 2 3", "negx", "jax 1", "taxx", "ldabsx", "ldxabs 4", "retx", "ldxx 1", "ret\u00a07", "\"ret\" 7", "-", "x # ret 7",
	} {
		wantWrong(t, s, 1, api.ErrWord)
	}
	wantWrong(t, "ret 7\n\ttax", 2, api.ErrWord)
	wantWrong(t, strings.Repeat("x", 65536), 1, api.ErrWord)
}

// P7.2: each line is numbered, from 1 on, those without words too.
func TestWrongLine(t *testing.T) {
	for n := range 300 {
		ahead := strings.Repeat("ret 7\n", n)
		wantWrong(t, ahead+"rat 7\nret 7\n", n+1, api.ErrWord)
		wantWrong(t, strings.Repeat("\n", n)+"ret", n+1, api.ErrForm)
		wantWrong(t, strings.Repeat("# x\n \n", n)+"ret 4294967296\nx", 2*n+1, api.ErrRange)
	}
	wantWrong(t, "\n\nx\ny\n", 3, api.ErrWord)
	wantWrong(t, "ret 1 2\nx", 1, api.ErrForm)
	wantWrong(t, "tax\nret 1 2\nx", 2, api.ErrForm)
}

// P7.2: too many numbers, or too few.
func TestErrForm(t *testing.T) {
	for _, s := range []string{
		"ret", "ret 1 2", "ret #1", "ret 1 2 #", "tax 0", "tax 1", "jeq", "jeq 1", "jeq 1 2", "jeq 1 2 3 4", "jeqx", "jeqx 1", "jeqx 1 2 3", "raw", "raw 1", "raw 1 2", "raw 1 2 3", "raw 1 2 3 4 5",
		"ret 1 2" + strings.Repeat(" 3", 30000),
	} {
		wantWrong(t, s, 1, api.ErrForm)
	}
}

// P7.2, R2: the word ahead of how many numbers there are, that ahead of each of them, these in their order.
func TestErrorsInOrder(t *testing.T) {
	for _, x := range []struct {
		s string
		e api.Errno
	}{
		{"rat", api.ErrWord}, {"rat 1 2", api.ErrWord}, {"rat x", api.ErrWord},
		{"ret x y", api.ErrForm}, {"ret 4294967296 1", api.ErrForm}, {"tax x", api.ErrForm}, {"jeq x 256", api.ErrForm},
		{"ret x", api.ErrWord}, {"ret 4294967296", api.ErrRange}, {"ret 18446744073709551616", api.ErrWord}, {"ret 18446744073709551615", api.ErrRange},
		{"jeq 1 x 256", api.ErrWord}, {"jeq 1 256 x", api.ErrRange}, {"jeq 4294967296 x 1", api.ErrRange}, {"jeq x 256 1", api.ErrWord}, {"jeq 4294967296 1 x", api.ErrRange}, {"jeq 1 2 x", api.ErrWord},
		{"jeqx x 256", api.ErrWord}, {"jeqx 256 x", api.ErrRange},
		{"raw x 256 1 1", api.ErrWord}, {"raw 65536 x 1 1", api.ErrRange}, {"raw 1 256 x 1", api.ErrRange}, {"raw 1 x 256 1", api.ErrWord}, {"raw 1 1 256 x", api.ErrRange}, {"raw 1 1 x 4294967296", api.ErrWord},
	} {
		wantWrong(t, x.s, 1, x.e)
	}
}

// P7.2: each number at its greatest, and one above.
func TestErrRange(t *testing.T) {
	wantParse(t, "ret 4294967295\nret 0xffffffff\nret 0", insn.Insn{Code: 6, K: 4294967295}, insn.Insn{Code: 6, K: 4294967295}, insn.Insn{Code: 6})
	wantParse(t, "jeq 4294967295 255 0xff", insn.Insn{Code: 0x15, Jt: 255, Jf: 255, K: 4294967295})
	wantParse(t, "jsetx 255 255", insn.Insn{Code: 0x4d, Jt: 255, Jf: 255})
	wantParse(t, "raw 65535 255 255 4294967295", insn.Insn{Code: 65535, Jt: 255, Jf: 255, K: 4294967295})
	for _, s := range []string{
		"ret 4294967296", "ret 0x100000000", "ld 4294967296", "jeq 4294967296 0 0", "jeq 0 256 0", "jeq 0 0 256", "jeqx 256 0", "jeqx 0 256", "jeqx 0 65536", "jeqx 4294967296 0",
		"raw 65536 0 0 0", "raw 0 256 0 0", "raw 0 0 256 0", "raw 0 0 0 4294967296", "raw 18446744073709551615 0 0 0", "ret 18446744073709551615",
	} {
		wantWrong(t, s, 1, api.ErrRange)
	}
}

// P7.2: what isn't a number is no word.
func TestNumbersInLines(t *testing.T) {
	for _, s := range []string{"x", "-1", "+1", "01", "0x", "0X1", "0xA", "1_0", "1,", "18446744073709551616", "1\t", "1\r", "\xff", "1\u00a02", "ret", "1.0", strings.Repeat("1", 60000)} {
		wantWrong(t, "ret "+s, 1, api.ErrWord)
		wantWrong(t, "jeq 1 2 "+s, 1, api.ErrWord)
		wantWrong(t, "raw "+s+" 1 2 3", 1, api.ErrWord)
	}
}

// P7.2: 65536 bytes may be, whatever they are; one more may not, ahead of all else, and beside no line.
func TestErrLong(t *testing.T) {
	wantParse(t, "ret 7"+strings.Repeat(" ", 65531), insn.Insn{Code: 6, K: 7})
	wantParse(t, "ret 7#"+strings.Repeat("é", 32765), insn.Insn{Code: 6, K: 7})
	wantParse(t, strings.Repeat("\n", 65536))
	wantWrong(t, strings.Repeat("\n", 65535)+"x", 65536, api.ErrWord)
	for _, n := range []int{65537, 65538, 65600, 100000, 1 << 20} {
		for _, s := range []string{"ret 7" + strings.Repeat(" ", n-5), strings.Repeat("x", n), "ret 7#" + strings.Repeat("x", n-6), strings.Repeat("\n", n)} {
			wantWrong(t, s, 0, api.ErrLong)
		}
	}
	wantWrong(t, "#"+strings.Repeat("é", 32768), 0, api.ErrLong)
	wantWrong(t, strings.Repeat("tax\n", 16384)+"x", 0, api.ErrLong)
}

// P7.2: 4096 instructions may be; the line of one more is told, lines without words being none; a line that would be none is wrong by itself.
func TestErrMany(t *testing.T) {
	most := strings.Repeat("tax\n", 4096)
	all := slices.Repeat([]insn.Insn{{Code: 7}}, 4096)
	wantParse(t, most, all...)
	wantParse(t, most+"\n # tax\n   \n", all...)
	wantParse(t, strings.Repeat("tax #\n\n", 4096), all...)
	wantParse(t, strings.Repeat("tax\n", 4095), all[1:]...)
	wantWrong(t, most+"tax", 4097, api.ErrMany)
	wantWrong(t, most+"tax\ntax\nx", 4097, api.ErrMany)
	wantWrong(t, most+"\n# tax\n \nret 7\n", 4100, api.ErrMany)
	wantWrong(t, "\n"+most+"raw 1 2 3 4", 4098, api.ErrMany)
	wantWrong(t, strings.Repeat("tax\n", 10000), 4097, api.ErrMany)
	wantWrong(t, most+"x", 4097, api.ErrWord)
	wantWrong(t, most+"ret", 4097, api.ErrForm)
	wantWrong(t, most+"ret x", 4097, api.ErrWord)
	wantWrong(t, most+"ret 4294967296", 4097, api.ErrRange)
	wantWrong(t, strings.Repeat("tax\n", 4095)+"x\ntax\ntax", 4096, api.ErrWord)
}

// P7.2: Text and Listing have no limit.
func TestTextOfMany(t *testing.T) {
	l := slices.Repeat([]insn.Insn{{Code: 0x45, Jt: 1, Jf: 2, K: 3}}, 5000)
	wantText(t, strings.Repeat("jset 3 1 2\n", 5000), l...)
	var want strings.Builder
	for at := range l {
		fmt.Fprintf(&want, "%d: jset 3 1 2 -> %d, %d\n", at, at+2, at+3)
	}
	if Listing(l) != want.String() {
		t.Error("Listing of 5000")
	}
}

// P7.2: a listing's places, by hand: of jumps their own place and one are reckoned; of what is no jump, or not known, there are none.
func TestListing(t *testing.T) {
	wantListing(t, "0: ja 0 -> 1\n1: ja 0 -> 2\n2: ja 3 -> 6\n", insn.Insn{Code: 5}, insn.Insn{Code: 5}, insn.Insn{Code: 5, K: 3})
	wantListing(t, "0: ja 4294967295 -> 4294967296\n1: ja 4294967295 -> 4294967297\n", insn.Insn{Code: 5, K: 4294967295}, insn.Insn{Code: 5, K: 4294967295})
	wantListing(t, "0: tax\n1: jgtx 0 255 -> 2, 257\n2: jge 7 255 0 -> 258, 3\n", insn.Insn{Code: 7}, insn.Insn{Code: 0x2d, Jf: 255}, insn.Insn{Code: 0x35, Jt: 255, K: 7})
	wantListing(t, "0: raw 5 1 2 3 -> 4\n1: raw 29 1 2 3 -> 3, 4\n", insn.Insn{Code: 5, Jt: 1, Jf: 2, K: 3}, insn.Insn{Code: 0x1d, Jt: 1, Jf: 2, K: 3})
	wantListing(t, "0: raw 13 1 2 3\n1: raw 85 1 2 3\n2: raw 261 1 2 3\n3: raw 277 1 2 3\n", insn.Insn{Code: 0x0d, Jt: 1, Jf: 2, K: 3}, insn.Insn{Code: 0x55, Jt: 1, Jf: 2, K: 3}, insn.Insn{Code: 0x105, Jt: 1, Jf: 2, K: 3}, insn.Insn{Code: 0x115, Jt: 1, Jf: 2, K: 3})
	wantListing(t, "0: ret 1\n1: raw 6 1 2 3\n2: reta\n", insn.Insn{Code: 6, K: 1}, insn.Insn{Code: 6, Jt: 1, Jf: 2, K: 3}, insn.Insn{Code: 0x16})
	ten := slices.Repeat([]insn.Insn{{Code: 5, K: 1}}, 11)
	if got := Listing(ten); !strings.HasSuffix(got, "\n9: ja 1 -> 11\n10: ja 1 -> 12\n") {
		t.Errorf("Listing of eleven: %q", got)
	}
}

// P7.2: instructions by chance are told as the chapter says, and parsed back.
func TestByChance(t *testing.T) {
	r := rand.New(rand.NewSource(72))
	for range 3000 {
		l := make([]insn.Insn, r.Intn(20))
		want := ""
		for i := range l {
			l[i] = insn.Insn{Code: words[r.Intn(len(words))].code, Jt: uint8(r.Intn(256) * r.Intn(2)), Jf: uint8(r.Intn(256) * r.Intn(2)), K: r.Uint32() >> r.Intn(32) * uint32(r.Intn(2))}
			if r.Intn(8) == 0 {
				l[i].Code = uint16(r.Intn(1 << 16))
			}
			want += toldLine(l[i]) + "\n"
		}
		wantText(t, want, l...)
		wantParse(t, want, l...)
	}
}

// P7.2, P1: texts by chance, of the words and of what is none, are parsed as the chapter says.
func TestTextsByChance(t *testing.T) {
	r := rand.New(rand.NewSource(721))
	bits := []string{"0", "1", "7", "255", "256", "65535", "65536", "4294967295", "4294967296", "18446744073709551615", "18446744073709551616", "0xff", "0x0", "00", "x", "-1", "#", "# 1", "raw", "\t", "\r", "\xff", "", " "}
	for range 60000 {
		var s strings.Builder
		for range r.Intn(4) {
			s.WriteString(strings.Repeat(" ", r.Intn(2)))
			w := words[r.Intn(len(words))]
			s.WriteString(w.word)
			for range len(w.behind) + r.Intn(30)/29 {
				bit := bits[r.Intn(len(bits))]
				if r.Intn(4) > 0 {
					bit = Printed(uint64(r.Intn(256)))
				}
				s.WriteString(" " + bit)
			}
			s.WriteString([]string{"\n", "\n", "\n", "\n\n", " \n", "#\n", " #x\n", "\n#\n", "", "\r\n"}[r.Intn(10)])
		}
		if r.Intn(5) == 0 {
			fmt.Fprintf(&s, "raw %d %d %d %d", r.Intn(70000), r.Intn(260), r.Intn(260), r.Int63n(1<<33))
		}
		want, line, err := toldParse(s.String())
		if err != api.OK {
			wantWrong(t, s.String(), line, err)
		} else {
			wantParse(t, s.String(), want...)
		}
	}
}

// P1: bytes by chance end, and don't panic.
func TestAnyBytes(t *testing.T) {
	r := rand.New(rand.NewSource(1))
	for n := range 3000 {
		b := make([]byte, n%200)
		r.Read(b)
		s := string(b)
		want, line, err := toldParse(s)
		if l, at, e := Parse(s); at != line || e != err || !slices.Equal(l, want) {
			t.Errorf("Parse of %q: %v, %d, %d; want %d, %d", s, l, at, e, line, err)
		}
		n, ok := toldNumber(s)
		wantNumber(t, s, n, ok)
	}
}

// R6: what is handed in stays as it was, the spare room behind it too.
func TestHandedInStays(t *testing.T) {
	all := func() []insn.Insn {
		var l []insn.Insn
		for n := range 64 {
			l = append(l, insn.Insn{Code: uint16(n), Jt: uint8(n), Jf: 1, K: uint32(n * n)})
		}
		return l
	}
	room := all()
	for n := range 64 {
		Text(room[:n])
		Listing(room[:n])
		if !slices.Equal(room, all()) {
			t.Fatalf("%d instructions were changed", n)
		}
	}
}

// R6: an answer shares no memory with another one.
func TestAnswersAreNew(t *testing.T) {
	s := "ldabs 0\njeq 2 0 1\nret 7\nret 9\n"
	first, _, _ := Parse(s)
	second, _, _ := Parse(s)
	first = first[:cap(first)]
	for i := range first {
		first[i] = insn.Insn{Code: 9}
	}
	wantText(t, s, second...)
	wantParse(t, s, second...)
}

// R8: what was asked ahead, wrong texts too, changes no answer; nor does it that many ask at once.
func TestAskedAgain(t *testing.T) {
	s := strings.Repeat("ldabs 0\njeq 2 0 1\n#\nret 0x7\nret 9 # 9\n", 100)
	l := slices.Repeat(example(), 100)
	text, listing := Text(l), Listing(l)
	var w sync.WaitGroup
	for range 8 {
		w.Go(func() {
			for range 20 {
				wantWrong(t, s+"x", 501, api.ErrWord)
				wantParse(t, s, l...)
				wantText(t, text, l...)
				wantListing(t, listing, l...)
			}
		})
	}
	w.Wait()
}
