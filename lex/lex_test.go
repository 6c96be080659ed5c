package lex

import (
	"math"
	"math/rand"
	"regexp"
	"slices"
	"strconv"
	"strings"
	"sync"
	"testing"

	"pinfold/api"
)

// The bytes that the chapter lets stand in words, written out; printable is those of a path.
const (
	letters   = "abcdefghijklmnopqrstuvwxyz"
	digits    = "0123456789"
	inName    = letters + digits + "-_,"
	inNumber  = letters + digits
	signBytes = "=!<>&"
	printable = "!\"$%&'()*+,-./0123456789:;<=>?@ABCDEFGHIJKLMNOPQRSTUVWXYZ[\\]^_`abcdefghijklmnopqrstuvwxyz{|}~"
	parting   = " \t\r"
)

// signs is all that there are.
var signs = []string{"==", "!=", "<", "<=", ">", ">=", "&"}

// The chapter's words anew: what is left out, what parts words, and a word of each kind where a text begins.
var (
	toldLeftOut = regexp.MustCompile(`#[^\n]*`)
	toldParting = regexp.MustCompile(`^[ \t\r]+`)
	toldName    = regexp.MustCompile(`^[a-z][a-z0-9_,-]*`)
	toldNumber  = regexp.MustCompile(`^[0-9][a-z0-9]*`)
	toldPath    = regexp.MustCompile(`^/[!"$-~]*`)
	toldSigns   = regexp.MustCompile(`^[=!<>&]+`)
	toldSign    = regexp.MustCompile(`^(==|!=|<=?|>=?|&)$`)
	toldTen     = regexp.MustCompile(`^(0|[1-9][0-9]*)$`)
	toldSixteen = regexp.MustCompile(`^0x(0|[1-9a-f][0-9a-f]*)$`)
)

// toldLex: a text as words, told from the chapter's words anew.
func toldLex(s string) ([]Token, Wrong) {
	if len(s) > 65536 {
		return nil, Wrong{Err: 36}
	}
	var l []Token
	for at, text := range strings.Split(toldLeftOut.ReplaceAllString(s, ""), "\n") {
		words := false
		for left := text; left != ""; {
			if p := toldParting.FindString(left); p != "" {
				left = left[len(p):]
				continue
			}
			words = true
			w, e := toldWord(left)
			w.Line, w.Col = at+1, len(text)-len(left)+1
			if e != 0 {
				return nil, Wrong{Line: w.Line, Col: w.Col, Err: e}
			}
			l = append(l, w)
			left = left[len(w.Text):]
		}
		if words {
			l = append(l, Token{Line: at + 1, Col: len(text) + 1})
		}
	}
	return l, Wrong{}
}

// toldWord: the word with which a text begins.
func toldWord(s string) (Token, api.Errno) {
	if w := toldName.FindString(s); w != "" {
		return Token{Kind: 1, Text: w}, 0
	}
	if w := toldPath.FindString(s); w != "" {
		if len(w) > 120 {
			return Token{}, 36
		}
		return Token{Kind: 3, Text: w}, 0
	}
	if w := toldNumber.FindString(s); w != "" {
		n, ok := toldValue(w)
		if !ok {
			return Token{}, 204
		}
		return Token{Kind: 2, Text: w, Number: n}, 0
	}
	if w := toldSigns.FindString(s); toldSign.MatchString(w) {
		return Token{Kind: 4, Text: w}, 0
	}
	return Token{}, 202
}

// toldValue: a text as a number.
func toldValue(s string) (uint64, bool) {
	base := 10
	if toldSixteen.MatchString(s) {
		s, base = s[2:], 16
	} else if !toldTen.MatchString(s) {
		return 0, false
	}
	n, err := strconv.ParseUint(s, base, 64)
	return n, err == nil
}

func wantLex(t *testing.T, s string, want ...Token) {
	t.Helper()
	if l, w := Lex(s); w != (Wrong{}) || !slices.Equal(l, want) {
		t.Errorf("Lex of %.200q (%d bytes): %.20v, %v; want %.20v", s, len(s), l, w, want)
	}
}

// wantWrong: R3, too: beside an error there are no words.
func wantWrong(t *testing.T, s string, line, col int, err api.Errno) {
	t.Helper()
	if l, w := Lex(s); len(l) != 0 || w != (Wrong{Line: line, Col: col, Err: err}) {
		t.Errorf("Lex of %.200q (%d bytes): %d words, %v; want %d, %d, %d", s, len(s), len(l), w, line, col, err)
	}
}

// wantTold: as the second telling has it, right or wrong.
func wantTold(t *testing.T, s string) {
	t.Helper()
	want, wrong := toldLex(s)
	if l, w := Lex(s); w != wrong || !slices.Equal(l, want) {
		t.Errorf("Lex of %.200q (%d bytes): %.20v, %v; want %.20v, %v", s, len(s), l, w, want, wrong)
	}
}

// wantOne: a text that is one word of a kind.
func wantOne(t *testing.T, s string, k Kind, n uint64) {
	t.Helper()
	wantLex(t, s, Token{Kind: k, Text: s, Number: n, Line: 1, Col: 1}, Token{Line: 1, Col: len(s) + 1})
}

// P8.1: the kinds are the numbers of their order.
func TestKinds(t *testing.T) {
	for n, k := range []Kind{End, Name, Number, Path, Sign} {
		if int(k) != n {
			t.Errorf("kind %d is %d", n, k)
		}
	}
}

// P8.1: the document's example.
func TestExample(t *testing.T) {
	wantLex(t, "arg0 &3==1",
		Token{Kind: Name, Text: "arg0", Line: 1, Col: 1},
		Token{Kind: Sign, Text: "&", Line: 1, Col: 6},
		Token{Kind: Number, Text: "3", Number: 3, Line: 1, Col: 7},
		Token{Kind: Sign, Text: "==", Line: 1, Col: 8},
		Token{Kind: Number, Text: "1", Number: 1, Line: 1, Col: 10},
		Token{Kind: End, Line: 1, Col: 11})
}

// P8.1: a policy's text, with all kinds, empty lines and what is left out.
func TestPolicy(t *testing.T) {
	wantLex(t, "policy p1\r\n\n  # nothing\ncall open errno 13 if arg1 & 0x2 == 2 # why\nhandle read,write\n\tbeneath /a/b.c read#\n\n",
		Token{Kind: Name, Text: "policy", Line: 1, Col: 1},
		Token{Kind: Name, Text: "p1", Line: 1, Col: 8},
		Token{Kind: End, Line: 1, Col: 11},
		Token{Kind: Name, Text: "call", Line: 4, Col: 1},
		Token{Kind: Name, Text: "open", Line: 4, Col: 6},
		Token{Kind: Name, Text: "errno", Line: 4, Col: 11},
		Token{Kind: Number, Text: "13", Number: 13, Line: 4, Col: 17},
		Token{Kind: Name, Text: "if", Line: 4, Col: 20},
		Token{Kind: Name, Text: "arg1", Line: 4, Col: 23},
		Token{Kind: Sign, Text: "&", Line: 4, Col: 28},
		Token{Kind: Number, Text: "0x2", Number: 2, Line: 4, Col: 30},
		Token{Kind: Sign, Text: "==", Line: 4, Col: 34},
		Token{Kind: Number, Text: "2", Number: 2, Line: 4, Col: 37},
		Token{Kind: End, Line: 4, Col: 39},
		Token{Kind: Name, Text: "handle", Line: 5, Col: 1},
		Token{Kind: Name, Text: "read,write", Line: 5, Col: 8},
		Token{Kind: End, Line: 5, Col: 18},
		Token{Kind: Name, Text: "beneath", Line: 6, Col: 2},
		Token{Kind: Path, Text: "/a/b.c", Line: 6, Col: 10},
		Token{Kind: Name, Text: "read", Line: 6, Col: 17},
		Token{Kind: End, Line: 6, Col: 21})
}

// P8.1, R5: lines without words say nothing, not even an End.
func TestNothing(t *testing.T) {
	for _, s := range []string{"", "\n", "\n\n\n", " ", "\t", "\r", "\r\n", " \t\r \n\t", "#", "# a", "#\n#", " # a # b\n\t#\xff\x00A\n", "##", "\n #"} {
		wantLex(t, s)
	}
}

// P8.1: each byte alone, ahead of a word, behind a word of each kind, and between two of them.
func TestEachByte(t *testing.T) {
	for c := range 256 {
		b := string([]byte{byte(c)})
		wantTold(t, b)
		for _, w := range []string{"a", "z9", "0", "7", "0x1", "/", "/a", "=", "!", "<", ">", "&", "==", "!="} {
			wantTold(t, b+w)
			wantTold(t, w+b)
			for _, v := range []string{"a", "0", "/", "=", "<"} {
				wantTold(t, w+b+v)
			}
		}
	}
}

// P8.1: with which kind a byte begins a word, by the lists written out; a byte with which none begins is wrong.
func TestBegins(t *testing.T) {
	for c := range 256 {
		b := string([]byte{byte(c)})
		switch {
		case strings.Contains(letters, b):
			wantOne(t, b, Name, 0)
		case strings.Contains(digits, b):
			wantOne(t, b, Number, uint64(c-'0'))
		case b == "/":
			wantOne(t, b, Path, 0)
		case strings.Contains("<>&", b):
			wantOne(t, b, Sign, 0)
		case strings.Contains(parting+"\n#", b):
			wantLex(t, b)
		default:
			wantWrong(t, b, 1, 1, api.ErrWord)
			wantWrong(t, "\n a "+b+" a", 2, 4, api.ErrWord)
		}
	}
}

// P8.1: which bytes stand in a name and in a path, by the lists written out.
func TestStands(t *testing.T) {
	for c := range 256 {
		b := string([]byte{byte(c)})
		if strings.Contains(inName, b) {
			wantOne(t, "a"+b, Name, 0)
			wantOne(t, "a"+b+b+"z", Name, 0)
		} else if l, _ := Lex("a" + b); len(l) > 0 && (l[0].Text != "a" || l[0].Kind != Name) {
			t.Errorf("%q stands in a name", b)
		}
		if strings.Contains(printable, b) {
			wantOne(t, "/"+b, Path, 0)
			wantOne(t, "/"+b+b+"/", Path, 0)
		} else if l, _ := Lex("/" + b); len(l) > 0 && (l[0].Text != "/" || l[0].Kind != Path) {
			t.Errorf("%q stands in a path", b)
		}
	}
}

// P8.1: small letters stand in a number, which then mostly is none; what can't stand there ends it.
func TestNumberStands(t *testing.T) {
	for _, c := range letters {
		wantWrong(t, "1"+string(c), 1, 1, api.ErrRange)
		wantWrong(t, " 1"+string(c)+" /", 1, 2, api.ErrRange)
	}
	for c := range 256 {
		b := string([]byte{byte(c)})
		if l, w := Lex("1" + b + " /"); !strings.Contains(inNumber, b) && (w.Col == 1 || len(l) > 0 && l[0] != Token{Kind: Number, Text: "1", Number: 1, Line: 1, Col: 1}) {
			t.Errorf("%q stands in a number: %v, %v", b, l, w)
		}
	}
}

// P8.1: numbers of both bases, the edges; the text is kept as it was.
func TestNumbers(t *testing.T) {
	for _, x := range []struct {
		s string
		n uint64
	}{
		{"0", 0}, {"9", 9}, {"10", 10}, {"65535", 65535}, {"65536", 65536}, {"4294967296", 1 << 32}, {"9223372036854775808", 1 << 63}, {"18446744073709551615", math.MaxUint64},
		{"0x0", 0}, {"0xa", 10}, {"0xdeadbeef", 0xdeadbeef}, {"0x100000000", 1 << 32}, {"0xffffffffffffffff", math.MaxUint64},
	} {
		wantOne(t, x.s, Number, x.n)
		wantLex(t, "n>="+x.s+"&", Token{Kind: Name, Text: "n", Line: 1, Col: 1}, Token{Kind: Sign, Text: ">=", Line: 1, Col: 2}, Token{Kind: Number, Text: x.s, Number: x.n, Line: 1, Col: 4}, Token{Kind: Sign, Text: "&", Line: 1, Col: 4 + len(x.s)}, Token{Line: 1, Col: 5 + len(x.s)})
	}
}

// P8.1: digits and letters that are no number.
func TestErrRange(t *testing.T) {
	for _, s := range []string{
		"00", "01", "007", "0x", "0x00", "0x01", "0xg", "0xx", "1x1", "00x1", "0b1", "0o7", "1e3", "12ab", "0a", "9z",
		"18446744073709551616", "99999999999999999999", "100000000000000000000", "0x10000000000000000", strings.Repeat("1", 60000), "1" + strings.Repeat("z", 60000),
	} {
		wantWrong(t, s, 1, 1, api.ErrRange)
		wantWrong(t, "a\n\n b\t"+s+" ! 00", 3, 4, api.ErrRange)
		wantWrong(t, "a=="+s, 1, 4, api.ErrRange)
	}
	wantWrong(t, "0xA", 1, 1, api.ErrRange)
	wantWrong(t, "0x-1", 1, 1, api.ErrRange)
	wantWrong(t, "1A", 1, 2, api.ErrWord)
	wantWrong(t, "1,2", 1, 2, api.ErrWord)
	wantWrong(t, "1-2", 1, 2, api.ErrWord)
	wantWrong(t, "1_2", 1, 2, api.ErrWord)
	wantWrong(t, "-1", 1, 1, api.ErrWord)
}

// P8.1: a path of 120 bytes may be, one of more may not; only its own bytes count.
func TestPathLength(t *testing.T) {
	for n := range 120 {
		wantOne(t, "/"+strings.Repeat("a", n), Path, 0)
	}
	most := "/" + strings.Repeat("~", 119)
	wantLex(t, " "+most+" # "+most, Token{Kind: Path, Text: most, Line: 1, Col: 2}, Token{Line: 1, Col: 123})
	wantLex(t, most+" "+most, Token{Kind: Path, Text: most, Line: 1, Col: 1}, Token{Kind: Path, Text: most, Line: 1, Col: 122}, Token{Line: 1, Col: 242})
	wantLex(t, most+"#a", Token{Kind: Path, Text: most, Line: 1, Col: 1}, Token{Line: 1, Col: 121})
	wantWrong(t, most+"\x7f", 1, 121, api.ErrWord)
	for _, n := range []int{121, 122, 240, 376, 65000} {
		s := strings.Repeat("/", n)
		wantWrong(t, s, 1, 1, api.ErrLong)
		wantWrong(t, s+"\x7f", 1, 1, api.ErrLong)
		wantWrong(t, "a\n b "+s+" !", 2, 4, api.ErrLong)
	}
}

// P8.1: a name may be of any length: no chapter's word is held against it here.
func TestNameLength(t *testing.T) {
	for _, n := range []int{14, 15, 120, 121, 65536} {
		wantOne(t, strings.Repeat("q", n), Name, 0)
	}
	for _, s := range []string{"a,", "a,,", "a,b,c", "a-", "a_", "a--__,,9", "read,write", "z0123456789-_,"} {
		wantOne(t, s, Name, 0)
	}
}

// P8.1: all texts of sign bytes, up to four of them: seven are signs, the others are wrong as a whole.
func TestSigns(t *testing.T) {
	all := []string{""}
	for from := 0; len(all[from]) < 4; from++ {
		for _, c := range signBytes {
			all = append(all, all[from]+string(c))
		}
	}
	there := 0
	for _, s := range all[1:] {
		if slices.Contains(signs, s) {
			there++
			wantOne(t, s, Sign, 0)
			continue
		}
		wantWrong(t, s, 1, 1, api.ErrWord)
		wantWrong(t, "\na"+s+"1", 2, 2, api.ErrWord)
	}
	if there != len(signs) {
		t.Errorf("%d signs", there)
	}
	wantWrong(t, strings.Repeat("<", 65536), 1, 1, api.ErrWord)
}

// P8.1: a word ends where a byte can't stand in it, without anything between it and the next.
func TestNothingBetween(t *testing.T) {
	wantLex(t, "a/b=1", Token{Kind: Name, Text: "a", Line: 1, Col: 1}, Token{Kind: Path, Text: "/b=1", Line: 1, Col: 2}, Token{Line: 1, Col: 6})
	wantLex(t, "12/3", Token{Kind: Number, Text: "12", Number: 12, Line: 1, Col: 1}, Token{Kind: Path, Text: "/3", Line: 1, Col: 3}, Token{Line: 1, Col: 5})
	wantLex(t, "<=a<b", Token{Kind: Sign, Text: "<=", Line: 1, Col: 1}, Token{Kind: Name, Text: "a", Line: 1, Col: 3}, Token{Kind: Sign, Text: "<", Line: 1, Col: 4}, Token{Kind: Name, Text: "b", Line: 1, Col: 5}, Token{Line: 1, Col: 6})
	wantLex(t, "a1&0x1!=/==", Token{Kind: Name, Text: "a1", Line: 1, Col: 1}, Token{Kind: Sign, Text: "&", Line: 1, Col: 3}, Token{Kind: Number, Text: "0x1", Number: 1, Line: 1, Col: 4}, Token{Kind: Sign, Text: "!=", Line: 1, Col: 7}, Token{Kind: Path, Text: "/==", Line: 1, Col: 9}, Token{Line: 1, Col: 12})
	wantWrong(t, "aB", 1, 2, api.ErrWord)
	wantWrong(t, "a.b", 1, 2, api.ErrWord)
	wantWrong(t, "a<-1", 1, 3, api.ErrWord)
	wantWrong(t, "/aé", 1, 3, api.ErrWord)
	wantWrong(t, "é", 1, 1, api.ErrWord)
	wantWrong(t, "a\vb", 1, 2, api.ErrWord)
	wantWrong(t, "a\fb", 1, 2, api.ErrWord)
	wantWrong(t, "a\u00a0b", 1, 2, api.ErrWord)
}

// P8.1: blanks, tabs and returns part words, any number of them; columns count bytes.
func TestParting(t *testing.T) {
	for _, gap := range []string{" ", "\t", "\r", "  ", "\t\t", "\r\r", " \t\r", strings.Repeat("\r \t", 100)} {
		n := len(gap)
		wantLex(t, gap+"a"+gap+"1"+gap+"/"+gap+"&"+gap,
			Token{Kind: Name, Text: "a", Line: 1, Col: n + 1}, Token{Kind: Number, Text: "1", Number: 1, Line: 1, Col: 2*n + 2},
			Token{Kind: Path, Text: "/", Line: 1, Col: 3*n + 3}, Token{Kind: Sign, Text: "&", Line: 1, Col: 4*n + 4}, Token{Line: 1, Col: 5*n + 5})
		wantLex(t, "<"+gap+"==", Token{Kind: Sign, Text: "<", Line: 1, Col: 1}, Token{Kind: Sign, Text: "==", Line: 1, Col: n + 2}, Token{Line: 1, Col: n + 4})
	}
}

// P8.1: an End stands behind all that isn't left out, blanks too, whatever is left out.
func TestEnds(t *testing.T) {
	a := Token{Kind: Name, Text: "a", Line: 1, Col: 1}
	for s, col := range map[string]int{"a": 2, "a ": 3, "a\r": 3, "a \t ": 5, "a#": 2, "a#b": 2, "a #b": 3, "a  # b # c": 4, "a\t#\xff\x00A!": 3, "a##": 2, "a\r#\r": 3} {
		wantLex(t, s, a, Token{Line: 1, Col: col})
		wantLex(t, s+"\n", a, Token{Line: 1, Col: col})
		wantLex(t, s+"\na", a, Token{Line: 1, Col: col}, Token{Kind: Name, Text: "a", Line: 2, Col: 1}, Token{Line: 2, Col: 2})
		wantLex(t, "\n\n"+s+"\n\n", Token{Kind: Name, Text: "a", Line: 3, Col: 1}, Token{Line: 3, Col: col})
	}
}

// P8.1: what stands behind # is left out up to the line's end, in a word too; only that.
func TestLeftOut(t *testing.T) {
	wantLex(t, "/a#b c\nd", Token{Kind: Path, Text: "/a", Line: 1, Col: 1}, Token{Line: 1, Col: 3}, Token{Kind: Name, Text: "d", Line: 2, Col: 1}, Token{Line: 2, Col: 2})
	wantLex(t, "<#=\n==", Token{Kind: Sign, Text: "<", Line: 1, Col: 1}, Token{Line: 1, Col: 2}, Token{Kind: Sign, Text: "==", Line: 2, Col: 1}, Token{Line: 2, Col: 3})
	wantLex(t, "1#1\r\n2", Token{Kind: Number, Text: "1", Number: 1, Line: 1, Col: 1}, Token{Line: 1, Col: 2}, Token{Kind: Number, Text: "2", Number: 2, Line: 2, Col: 1}, Token{Line: 2, Col: 2})
	wantLex(t, "0#x\nx", Token{Kind: Number, Text: "0", Line: 1, Col: 1}, Token{Line: 1, Col: 2}, Token{Kind: Name, Text: "x", Line: 2, Col: 1}, Token{Line: 2, Col: 2})
	wantLex(t, "#!00/"+strings.Repeat("a", 200))
	wantWrong(t, "#!\n!", 2, 1, api.ErrWord)
	wantWrong(t, "=#=", 1, 1, api.ErrWord)
}

// P8.1: each line is numbered, from 1 on, those without words too.
func TestLines(t *testing.T) {
	for n := range 300 {
		wantLex(t, strings.Repeat("\n", n)+"a", Token{Kind: Name, Text: "a", Line: n + 1, Col: 1}, Token{Line: n + 1, Col: 2})
		wantWrong(t, strings.Repeat("a b\n", n)+" 01", n+1, 2, api.ErrRange)
		wantWrong(t, strings.Repeat("# !\n \r\n", n)+"a !", 2*n+1, 3, api.ErrWord)
		l, w := Lex(strings.Repeat("a\n", n))
		if w != (Wrong{}) || len(l) != 2*n || n > 0 && l[2*n-1] != (Token{Line: n, Col: 2}) {
			t.Errorf("%d lines: %d words, %v", n, len(l), w)
		}
	}
	wantLex(t, strings.Repeat("\n", 65535)+"a", Token{Kind: Name, Text: "a", Line: 65536, Col: 1}, Token{Line: 65536, Col: 2})
	wantLex(t, strings.Repeat(" ", 65535)+"a", Token{Kind: Name, Text: "a", Line: 1, Col: 65536}, Token{Line: 1, Col: 65537})
}

// P8.1: of several that are wrong the first is told, whatever it is.
func TestFirstWrong(t *testing.T) {
	bad := map[string]api.Errno{"!": api.ErrWord, "A": api.ErrWord, "01": api.ErrRange, "/" + strings.Repeat("a", 120): api.ErrLong}
	for s, e := range bad {
		for other := range bad {
			wantWrong(t, s+" "+other, 1, 1, e)
			wantWrong(t, "a "+s+"\n"+other, 1, 3, e)
			wantWrong(t, "#"+other+"\n\t"+s+"\n"+other, 2, 2, e)
		}
	}
}

// P8.1: 65536 bytes may be, whatever they are; one more may not, ahead of all else, and at no place.
func TestErrLong(t *testing.T) {
	wantLex(t, "a"+strings.Repeat(" ", 65535), Token{Kind: Name, Text: "a", Line: 1, Col: 1}, Token{Line: 1, Col: 65537})
	wantLex(t, "a#"+strings.Repeat("é", 32767), Token{Kind: Name, Text: "a", Line: 1, Col: 1}, Token{Line: 1, Col: 2})
	wantLex(t, strings.Repeat("\n", 65536))
	wantWrong(t, strings.Repeat("\n", 65535)+"!", 65536, 1, api.ErrWord)
	if l, w := Lex(strings.Repeat("a\n", 32768)); len(l) != 65536 || w != (Wrong{}) {
		t.Errorf("%d words, %v", len(l), w)
	}
	if l, w := Lex(strings.Repeat("a&", 32768)); len(l) != 65537 || w != (Wrong{}) {
		t.Errorf("%d words, %v", len(l), w)
	}
	for _, n := range []int{65537, 65538, 65600, 100000, 1 << 20} {
		for _, s := range []string{"a", " ", "\n", "#", "!", "0", "/", "\xff"} {
			wantWrong(t, strings.Repeat(s, n), 0, 0, api.ErrLong)
		}
		wantWrong(t, "a#"+strings.Repeat("x", n-2), 0, 0, api.ErrLong)
	}
	wantWrong(t, "#"+strings.Repeat("é", 32768), 0, 0, api.ErrLong)
}

// P8.1: all texts of up to five of the bytes at which something turns.
func TestAllShort(t *testing.T) {
	const some = "a0x/=<& \n#A"
	level := []string{""}
	for range 5 {
		var longer []string
		for _, s := range level {
			for i := range len(some) {
				longer = append(longer, s+some[i:i+1])
			}
		}
		for _, s := range longer {
			wantTold(t, s)
		}
		level = longer
	}
}

// P8.1: texts by chance, of words and of what is none, are cut as the chapter says.
func TestByChance(t *testing.T) {
	r := rand.New(rand.NewSource(81))
	bits := slices.Concat(signs, []string{"a", "policy", "read,write", "a-b_1,", "arg5", "0", "7", "13", "0xff", "65536", "18446744073709551615", "/", "/a", "/a/b", "/a,b.c~!", " ", " ", "  ", "\t", "\r", "\n", "\n", "\r\n", "\n\n", " \n", "#", "# a\n", " #/!\n"})
	rare := []string{"A", "-", "_", ",", ".", "=", "!", "===", "00", "0x", "18446744073709551616", "/" + strings.Repeat("b", 118), "/" + strings.Repeat("b", 119), "/" + strings.Repeat("b", 120), "\x00", "\x7f", "\x80", "\xff", "é", "\v"}
	right := 0
	for range 60000 {
		var s strings.Builder
		for range r.Intn(24) {
			if r.Intn(60) == 0 {
				s.WriteString(rare[r.Intn(len(rare))])
			} else {
				s.WriteString(bits[r.Intn(len(bits))])
			}
			s.WriteString([]string{"", " ", "", "\t"}[r.Intn(4)])
		}
		wantTold(t, s.String())
		if _, w := Lex(s.String()); w == (Wrong{}) {
			right++
		}
	}
	if right < 6000 || right > 54000 {
		t.Errorf("of 60000 texts %d are right", right)
	}
}

// P1: bytes by chance end, and don't panic.
func TestAnyBytes(t *testing.T) {
	r := rand.New(rand.NewSource(1))
	for n := range 20000 {
		b := make([]byte, n%64)
		r.Read(b)
		for i := range b {
			if r.Intn(2) == 0 {
				b[i] = "az09/=<>&! \t\r\n#,-_"[r.Intn(18)]
			}
		}
		wantTold(t, string(b))
	}
}

// P8.2: the parts that commas part, empty ones too; a text without commas is one.
func TestSplit(t *testing.T) {
	for _, x := range []struct {
		s    string
		want []string
	}{
		{"read", []string{"read"}}, {"read,write", []string{"read", "write"}}, {"a,b,c", []string{"a", "b", "c"}}, {"a-b,c_1", []string{"a-b", "c_1"}},
		{"a,", []string{"a", ""}}, {"a,,b", []string{"a", "", "b"}}, {"a,,", []string{"a", "", ""}}, {"/a,/b", []string{"/a", "/b"}},
		{",", []string{"", ""}}, {",a", []string{"", "a"}}, {"", []string{""}}, {"a b, c", []string{"a b", " c"}}, {"a;b", []string{"a;b"}}, {"\xff,\x00", []string{"\xff", "\x00"}},
	} {
		for k := range Kind(8) {
			if got := (Token{Kind: k, Text: x.s, Number: 9, Line: 1, Col: 2}).Split(); !slices.Equal(got, x.want) {
				t.Errorf("Split of %q: %q; want %q", x.s, got, x.want)
			}
		}
	}
	l, _ := Lex("handle a,bc,,d,")
	if got := l[1].Split(); !slices.Equal(got, []string{"a", "bc", "", "d", ""}) {
		t.Errorf("Split: %q", got)
	}
	if got := (Token{Text: strings.Repeat(",", 100000)}).Split(); len(got) != 100001 || strings.Join(got, "") != "" {
		t.Errorf("Split of commas: %d", len(got))
	}
}

// P8.2: each byte, by the list written out and by the numbers.
func TestPrintable(t *testing.T) {
	for c := range 256 {
		want := strings.IndexByte(printable, byte(c)) >= 0
		if want != (c >= 33 && c <= 126 && c != 35) {
			t.Fatalf("the list is wrong at %d", c)
		}
		if Printable(byte(c)) != want {
			t.Errorf("Printable(%d): %v", c, !want)
		}
	}
}

// R6: an answer shares no list with another one.
func TestAnswersAreNew(t *testing.T) {
	s := "arg0 &3==1\nread,write"
	first, _ := Lex(s)
	second, _ := Lex(s)
	want := slices.Clone(second)
	first = first[:cap(first)]
	for i := range first {
		first[i] = Token{Text: "x"}
	}
	wantLex(t, s, want...)
	if !slices.Equal(second, want) {
		t.Error("two answers share words")
	}
	one, two := want[6].Split(), want[6].Split()
	one = one[:cap(one)]
	clear(one)
	if !slices.Equal(two, []string{"read", "write"}) {
		t.Error("two answers share parts")
	}
}

// R8: what was asked ahead, wrong texts too, changes no answer; nor does it that many ask at once.
func TestAskedAgain(t *testing.T) {
	s := strings.Repeat("arg0 &3==1 # why\n/a/b read,write\n\n", 50)
	want, _ := toldLex(s)
	var w sync.WaitGroup
	for range 8 {
		w.Go(func() {
			for range 20 {
				wantWrong(t, s+"!", 151, 1, api.ErrWord)
				wantLex(t, s, want...)
				wantWrong(t, s+" 0x", 151, 2, api.ErrRange)
			}
		})
	}
	w.Wait()
}
