package right

import (
	"slices"
	"strings"
	"sync"
	"testing"

	"pinfold/api"
)

// told is the document's own list, written out once more: bits and names that were changed would else change along with what they are held against.
var told = []struct {
	bit  int
	name string
}{
	{0, "exec"}, {1, "write"}, {2, "read"}, {3, "list"}, {4, "rmdir"}, {5, "rmfile"}, {6, "mkdir"}, {7, "mkfile"},
	{8, "mklink"}, {9, "refer"}, {10, "truncate"}, {14, "bind"}, {15, "connect"},
}

// nameless: the bits that mean nothing.
const nameless = 1<<11 | 1<<12 | 1<<13

// everySet calls f with each set that there is, bits without a name included.
func everySet(f func(s Set)) {
	for n := range 1 << 16 {
		f(Set(n))
	}
}

// textOf is what Text has to answer.
func textOf(s Set) string {
	text := ""
	for _, r := range told {
		if s>>r.bit&1 == 1 {
			text += "," + r.name
		}
	}
	if text == "" {
		return "-"
	}
	return text[1:]
}

func wantParse(t *testing.T, s string, want Set, wantErr api.Errno) {
	t.Helper()
	if got, e := New().Parse(s); got != want || e != wantErr {
		t.Errorf("Parse(%.60q): %#x, %d; want %#x, %d", s, uint16(got), e, uint16(want), wantErr)
	}
}

// The types: the constants are the bits that the document gives them.
func TestConstants(t *testing.T) {
	got := []Set{Exec, Write, Read, List, RemoveDir, RemoveFile, MakeDir, MakeFile, MakeLink, Refer, Truncate, Bind, Connect}
	if len(got) != len(told) {
		t.Fatalf("%d constants; want %d", len(got), len(told))
	}
	for i, s := range got {
		if s != Set(1)<<told[i].bit {
			t.Errorf("constant of %s is %#x; want bit %d", told[i].name, uint16(s), told[i].bit)
		}
	}
	if Files != 0x407 || Paths != 0x7ff || Ports != 0xc000 {
		t.Errorf("Files %#x, Paths %#x, Ports %#x", uint16(Files), Paths, uint16(Ports))
	}
}

// P2.1: each right is found by its name.
func TestOne(t *testing.T) {
	for _, r := range told {
		if s, ok := New().One(r.name); !ok || s != Set(1)<<r.bit {
			t.Errorf("One(%q): %#x, %v", r.name, uint16(s), ok)
		}
	}
}

// P2.1, R3: what is no right's name: false, and none; a bit without a name isn't found by an empty text.
func TestOneOfNone(t *testing.T) {
	w := New()
	for _, s := range []string{
		"", "-", " ", ",", "Read", "READ", "read ", " read", "rea", "reads", "read,", ",read", "read,write", "read\x00", "\x00",
		"RemoveDir", "removedir", "makefile", "mk-dir", "files", "paths", "ports", "open", "0", "2", "4", "\xff", "réad", "ｒead",
		strings.Repeat("read", 100000),
	} {
		if r, ok := w.One(s); ok || r != 0 {
			t.Errorf("One(%.20q): %#x, %v", s, uint16(r), ok)
		}
	}
}

// P2.1: names with commas between them, in any order; the document's example.
func TestParse(t *testing.T) {
	wantParse(t, "write,read", 6, api.OK)
	wantParse(t, "read,write", 6, api.OK)
	wantParse(t, "connect,exec", 0x8001, api.OK)
	wantParse(t, "bind", 0x4000, api.OK)
	wantParse(t, "truncate,refer,rmfile", 0x620, api.OK)
	for _, r := range told {
		wantParse(t, r.name, Set(1)<<r.bit, api.OK)
	}
	all := strings.Split(textOf(0xffff), ",")
	wantParse(t, strings.Join(all, ","), 0xc7ff, api.OK)
	slices.Reverse(all)
	wantParse(t, strings.Join(all, ","), 0xc7ff, api.OK)
}

// P2.1: each set's text, but that of none, is that set again, less its bits without a name.
func TestParseOfText(t *testing.T) {
	w := New()
	everySet(func(s Set) {
		named := s &^ nameless
		if named == 0 {
			return
		}
		if got, e := w.Parse(s.Text()); got != named || e != api.OK {
			t.Fatalf("Parse of the text of %#x: %#x, %d", uint16(s), uint16(got), e)
		}
	})
}

// P2.1, R3: ErrWord where a name is none, wherever it stands; an empty name is none.
func TestParseErrWord(t *testing.T) {
	for _, s := range []string{
		"", ",", ",,", "read,", ",read", "read,,write", "read,write,", "-", "read,-", "-,read", " ", " read", "read ", "read, write",
		"Read", "READ", "reed", "readwrite", "read;write", "read write", "read\n", "read\x00", "read，write", "\xff", "read,\xff,write",
		"4", "read|write", "files", "paths", "read,foo", "foo,read", "read,foo,write",
		strings.Repeat("read", 1<<18), strings.Repeat(",", 1<<24), textOf(0xffff) + ",", textOf(0xffff) + ",foo",
	} {
		wantParse(t, s, 0, api.ErrWord)
	}
}

// P2.1, R3: ErrTwice where a name was there, next to it or not.
func TestParseErrTwice(t *testing.T) {
	for _, s := range []string{
		"read,read", "write,read,write", "read,write,exec,read", "bind,bind", "connect,bind,connect", "exec,exec,exec",
		strings.Repeat("read,", 1<<20) + "read", textOf(0xffff) + ",truncate",
	} {
		wantParse(t, s, 0, api.ErrTwice)
	}
	for _, r := range told {
		wantParse(t, r.name+","+r.name, 0, api.ErrTwice)
		wantParse(t, textOf(0xffff)+","+r.name, 0, api.ErrTwice)
	}
}

// P2.1, R2: the names are looked at in their order; the first that isn't right tells the error.
func TestParseErrorsInOrder(t *testing.T) {
	wantParse(t, "read,read,foo", 0, api.ErrTwice)
	wantParse(t, "read,foo,read", 0, api.ErrWord)
	wantParse(t, "foo,read,read", 0, api.ErrWord)
	wantParse(t, "foo,foo", 0, api.ErrWord)
	wantParse(t, "read,read,", 0, api.ErrTwice)
	wantParse(t, ",read,read", 0, api.ErrWord)
	wantParse(t, strings.Repeat("read,", 1<<20), 0, api.ErrTwice)
}

// P2.1: the text of every set: its names by their bits, - of none; bits without a name are left out.
func TestText(t *testing.T) {
	for s, want := range map[Set]string{
		0: "-", 6: "write,read", Connect | Exec: "exec,connect", Ports: "bind,connect", Files: "exec,write,read,truncate",
		Paths:   "exec,write,read,list,rmdir,rmfile,mkdir,mkfile,mklink,refer,truncate",
		1 << 11: "-", nameless: "-", nameless | Refer: "refer", 1<<13 | Bind: "bind",
	} {
		if got := s.Text(); got != want {
			t.Errorf("Text of %#x: %q; want %q", uint16(s), got, want)
		}
	}
	everySet(func(s Set) {
		if got, want := s.Text(), textOf(s); got != want {
			t.Fatalf("Text of %#x: %q; want %q", uint16(s), got, want)
		}
	})
}

// P2.2: every set is valid, but those with a bit without a name; none at all is valid.
func TestValid(t *testing.T) {
	everySet(func(s Set) {
		if want := s>>11&7 == 0; s.Valid() != want {
			t.Fatalf("Valid of %#x: %v", uint16(s), !want)
		}
	})
}

// P2.2: Has asks for all of the other's bits, with a name or without; each set has none, and itself.
func TestHas(t *testing.T) {
	others := []Set{0, 1, 2, 6, 7, 1 << 11, nameless, Refer, Truncate, Bind, Connect, Files, Paths, Ports, Exec | Connect, 1<<12 | Read, 0xffff}
	everySet(func(s Set) {
		for _, other := range others {
			want := true
			for i := range 16 {
				want = want && (other>>i&1 == 0 || s>>i&1 == 1)
			}
			if s.Has(other) != want {
				t.Fatalf("%#x Has %#x: %v", uint16(s), uint16(other), !want)
			}
		}
		if !s.Has(s) {
			t.Fatalf("%#x hasn't itself", uint16(s))
		}
	})
}

// P2.2: how many bits, and each of them alone, the lowest first, with a name or without.
func TestCountAndEach(t *testing.T) {
	everySet(func(s Set) {
		var want []Set
		for i := range 16 {
			if s>>i&1 == 1 {
				want = append(want, Set(1)<<i)
			}
		}
		if s.Count() != len(want) {
			t.Fatalf("Count of %#x: %d; want %d", uint16(s), s.Count(), len(want))
		}
		if each := s.Each(); !slices.Equal(each, want) {
			t.Fatalf("Each of %#x: %v; want %v", uint16(s), each, want)
		}
	})
}

// R6: what Each answered may be written over, spare room included.
func TestEachIsNew(t *testing.T) {
	s := Files | Ports
	first, second := s.Each(), s.Each()
	clear(first[:cap(first)])
	want := []Set{Exec, Write, Read, Truncate, Bind, Connect}
	if !slices.Equal(second, want) || !slices.Equal(s.Each(), want) {
		t.Error("an answer of Each shares memory with another")
	}
}

// P2.2: of a directory what paths may be granted, of a file what files may; a port's rights and bits without a name of neither.
func TestFits(t *testing.T) {
	everySet(func(s Set) {
		if got, want := s.Fits(true), s&0x7ff; got != want {
			t.Fatalf("%#x Fits(true): %#x; want %#x", uint16(s), uint16(got), uint16(want))
		}
		if got, want := s.Fits(false), s&0x407; got != want {
			t.Fatalf("%#x Fits(false): %#x; want %#x", uint16(s), uint16(got), uint16(want))
		}
	})
}

// R7: nil words do nothing, and answer ErrNil ahead of what is wrong with the text.
func TestNil(t *testing.T) {
	var w *Words
	for _, s := range []string{"read", "", "foo", "write,read", "read,read"} {
		if r, ok := w.One(s); ok || r != 0 {
			t.Errorf("One(%q): %#x, %v", s, uint16(r), ok)
		}
		if r, e := w.Parse(s); r != 0 || e != api.ErrNil {
			t.Errorf("Parse(%q): %#x, %d", s, uint16(r), e)
		}
	}
	if New() == nil {
		t.Error("New answered nil")
	}
}

// P1: words that New didn't make are as good as those that it did.
func TestZeroWords(t *testing.T) {
	var w Words
	if s, ok := w.One("refer"); !ok || s != Refer {
		t.Errorf("One: %#x, %v", uint16(s), ok)
	}
	if s, e := w.Parse("refer,bind"); s != Refer|Bind || e != api.OK {
		t.Errorf("Parse: %#x, %d", uint16(s), e)
	}
}

// R8: what was asked ahead, a wrong text too, changes no answer; nor does it that many ask at once.
func TestAskedAgain(t *testing.T) {
	shared := New()
	var w sync.WaitGroup
	for range 16 {
		w.Go(func() {
			for range 200 {
				if s, e := shared.Parse("read,write,read"); s != 0 || e != api.ErrTwice {
					t.Errorf("Parse of a name twice: %#x, %d", uint16(s), e)
				}
				if s, e := shared.Parse("read,write"); s != 6 || e != api.OK {
					t.Errorf("Parse: %#x, %d", uint16(s), e)
				}
				if s, ok := shared.One("list"); !ok || s != List {
					t.Errorf("One: %#x, %v", uint16(s), ok)
				}
			}
		})
	}
	w.Wait()
}
