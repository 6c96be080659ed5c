package inode

import (
	"fmt"
	"math"
	"math/rand"
	"slices"
	"strconv"
	"strings"
	"testing"

	"pinfold/api"
)

func wantErr(t *testing.T, what string, got, want api.Errno) {
	t.Helper()
	if got != want {
		t.Errorf("%s: %d, want %d", what, got, want)
	}
}

func wantNode(t *testing.T, x *Table, n Number, want *Node) {
	t.Helper()
	if got := x.Get(n); asText(got) != asText(want) {
		t.Errorf("Get(%d):\n%s, want\n%s", n, asText(got), asText(want))
	}
}

func wantData(t *testing.T, x *Table, n Number, want string) {
	t.Helper()
	if y := x.Get(n); y == nil || string(y.Data) != want {
		t.Fatalf("data of %d: %s, want %q", n, asText(y), want)
	}
}

// made is a new one, which there has to be.
func made(t *testing.T, x *Table, in Number, name string, k Kind) Number {
	t.Helper()
	text := ""
	if k == Link {
		text = "t"
	}
	n, e := x.Make(in, name, k, text)
	if e != api.OK {
		t.Fatalf("Make(%d, %q, %d): %d", in, name, k, e)
	}
	return n
}

// done wants a call to be OK.
func done(t *testing.T, e api.Errno) {
	t.Helper()
	if e != api.OK {
		t.Fatalf("%d", e)
	}
}

// chain is directories a, each in the one ahead of it, so many, in a directory; the last.
func chain(t *testing.T, x *Table, in Number, many int) Number {
	t.Helper()
	for range many {
		in = made(t, x, in, "a", Dir)
	}
	return in
}

// removed is a directory, or a file, that is held and has no name any more.
func removed(t *testing.T, x *Table, in Number, k Kind) Number {
	t.Helper()
	n := made(t, x, in, "gone", k)
	done(t, x.Hold(n, true))
	done(t, x.Drop(in, "gone", k == Dir))
	return n
}

// fill adds names n0, n1 and so on of an inode to a directory, till it has 32.
func fill(t *testing.T, x *Table, in, n Number) {
	t.Helper()
	for i := 0; len(x.Get(in).Names) < 32; i++ {
		done(t, x.Add(in, "n"+strconv.Itoa(i), n))
	}
}

// state is all of a table.
func state(x *Table) string {
	text := fmt.Sprint(x.Numbers(), x.Changes())
	for _, n := range x.Numbers() {
		text += "\n" + asText(x.Get(n))
	}
	return text
}

// copied is a table like another one.
func copied(x *Table) *Table {
	y := &Table{nodes: make([]*Node, len(x.nodes)), changes: x.changes}
	for i, n := range x.nodes {
		if n != nil {
			c := *n
			c.Data = slices.Clone(n.Data)
			if n.Names != nil {
				c.Names = map[string]Number{}
				for name, to := range n.Names {
					c.Names[name] = to
				}
			}
			y.nodes[i] = &c
		}
	}
	return y
}

// The document's example.
func TestExample(t *testing.T) {
	x := New(256)
	n, e := x.Make(1, "a", File, "")
	if n != 2 || e != api.OK {
		t.Fatalf("Make: %d, %d", n, e)
	}
	wantErr(t, "Add", x.Add(1, "b", 2), api.OK)
	wantErr(t, "Drop", x.Drop(1, "a", false), api.OK)
	if n, e := x.Look(1, "b"); n != 2 || e != api.OK {
		t.Errorf("Look: %d, %d", n, e)
	}
	wantNode(t, x, 2, &Node{Number: 2, Kind: File, Links: 1})
}

// P16.1: the kinds are numbered from 1 on.
func TestKinds(t *testing.T) {
	if File != 1 || Dir != 2 || Link != 3 {
		t.Errorf("%d, %d, %d", File, Dir, Link)
	}
}

// P16.1: a new table has the root, and nothing else.
func TestNew(t *testing.T) {
	for _, limit := range []int{math.MinInt, -1, 0, 1, 2, 17, 256, 257, math.MaxInt} {
		x := New(limit)
		wantTold(t, x, toldNew(limit), "New")
		wantNode(t, x, 1, &Node{Number: 1, Kind: Dir, Parent: 1, Links: 1})
		wantWhole(t, x, "New")
		for _, n := range []Number{0, 2, 3, 255, 256, 257, 258, 1 << 15, math.MaxUint16} {
			wantNode(t, x, n, nil)
		}
	}
	x, y := New(9), New(9)
	made(t, x, 1, "a", File)
	if y.Len() != 1 || x.Len() != 2 {
		t.Error("two tables are one")
	}
}

// crowd makes as many as there may be; the numbers that they have.
func crowd(t *testing.T, x *Table) []Number {
	t.Helper()
	var l []Number
	for i := range 32 {
		in, e := x.Make(1, "d"+strconv.Itoa(i), Dir, "")
		for j := 0; e == api.OK; j++ {
			if j == 0 {
				l = append(l, in)
			}
			if j == 32 {
				break
			}
			var n Number
			if n, e = x.Make(in, "f"+strconv.Itoa(j), Kind(1+j%2), ""); e == api.OK {
				l = append(l, n)
			}
		}
		if e != api.OK {
			wantErr(t, "Make of one too many", e, api.ErrNoSpace)
			return l
		}
	}
	t.Fatal("there is no limit")
	return nil
}

// P16.1, P16.2: there are at most as many as the limit, 1 to 256, as near as it is; the numbers are those from 1 on.
func TestLimit(t *testing.T) {
	for limit, want := range map[int]int{math.MinInt: 1, -1: 1, 0: 1, 1: 1, 2: 2, 3: 3, 40: 40, 255: 255, 256: 256, 257: 256, 1000: 256, 1<<16 + 5: 256, math.MaxInt: 256} {
		x := New(limit)
		l := crowd(t, x)
		if len(l) != want-1 || x.Len() != want || x.Changes() != int64(want-1) {
			t.Errorf("limit %d: %d made, Len %d, Changes %d", limit, len(l), x.Len(), x.Changes())
		}
		for i, n := range l {
			if n != Number(i+2) {
				t.Errorf("limit %d: number %d is %d", limit, i, n)
			}
		}
		wantWhole(t, x, "crowd")
	}
}

// P16.1: numbers rise, whichever are free; Len is how many.
func TestNumbers(t *testing.T) {
	x := New(9)
	for i := range 8 {
		made(t, x, 1, string(rune('a'+i)), File)
	}
	for _, gone := range []struct {
		name string
		want []Number
	}{
		{"c", []Number{1, 2, 3, 5, 6, 7, 8, 9}}, {"a", []Number{1, 3, 5, 6, 7, 8, 9}}, {"h", []Number{1, 3, 5, 6, 7, 8}},
		{"e", []Number{1, 3, 5, 7, 8}}, {"b", []Number{1, 5, 7, 8}}, {"g", []Number{1, 5, 7}}, {"f", []Number{1, 5}}, {"d", []Number{1}},
	} {
		done(t, x.Drop(1, gone.name, false))
		if got := x.Numbers(); !slices.Equal(got, gone.want) || x.Len() != len(gone.want) {
			t.Errorf("Numbers: %v, Len: %d, want %v", got, x.Len(), gone.want)
		}
	}
}

// P16.2: a new one has the least number that is free; what is held keeps its own.
func TestLeastNumber(t *testing.T) {
	x := New(6)
	for _, name := range []string{"a", "b", "c", "d", "e"} {
		made(t, x, 1, name, File)
	}
	done(t, x.Hold(3, true))
	for _, name := range []string{"b", "d", "a"} {
		done(t, x.Drop(1, name, false))
	}
	for i, want := range []Number{2, 5} {
		if n := made(t, x, 1, "new"+strconv.Itoa(i), Dir); n != want {
			t.Errorf("number %d, want %d", n, want)
		}
	}
	_, e := x.Make(1, "more", File, "")
	wantErr(t, "one that is held counts", e, api.ErrNoSpace)
	done(t, x.Hold(3, false))
	if n := made(t, x, 1, "more", Link); n != 3 {
		t.Errorf("number %d, want 3", n)
	}
	wantNode(t, x, 3, &Node{Number: 3, Kind: Link, Text: "t", Links: 1})
}

// P16.1: of all bytes those from 33 to 126 may stand in a name, but / and #, wherever they stand.
func TestNameBytes(t *testing.T) {
	for c := range 256 {
		b := byte(c)
		want := 33 <= c && c <= 126 && b != '/' && b != '#'
		for _, around := range [][2]string{{"", ""}, {"a", ""}, {"", "a"}, {"ab", "cd"}, {"", "abcdefghijklm"}, {"abcdefghijklm", ""}} {
			s := around[0] + string([]byte{b}) + around[1]
			if got := Name(s); got != (want && s != ".") {
				t.Errorf("Name(%q): %v", s, got)
			}
		}
	}
	for c := rune(127); c < 0x3000; c++ {
		if Name(string(c)) || Name("a"+string(c)) {
			t.Errorf("Name(%q)", string(c))
		}
	}
}

// P16.1: one to fourteen bytes; neither . nor .., but those with more behind, or ahead.
func TestName(t *testing.T) {
	for n := range 40 {
		for _, c := range []string{"a", "~", "!", "0", "-", "A"} {
			if got := Name(strings.Repeat(c, n)); got != (1 <= n && n <= 14) {
				t.Errorf("Name of %d %s: %v", n, c, got)
			}
		}
		if got := Name(strings.Repeat(".", n)); got != (3 <= n && n <= 14) {
			t.Errorf("Name of %d dots: %v", n, got)
		}
	}
	for _, s := range []string{".a", "..a", "a.", "a..", "a.b", "*", "\\", "%", "\"", "Open"} {
		if !Name(s) {
			t.Errorf("Name(%q): false", s)
		}
	}
	for _, s := range []string{"", ".", "..", "/", "//", "./", "a/", "/a", "a/b", "#", "#a", "a#", " ", " a", "a ", "\x00", "a\x00", "\n", "\x7f", "ä", "aä", "\xff", "a\xc3", "\ufffd", strings.Repeat("a", 1<<20), "aaaaaaaaaaaaaä"} {
		if Name(s) {
			t.Errorf("Name(%.20q): true", s)
		}
	}
}

// P16.1: Look's errors, and the inode, of each kind.
func TestLook(t *testing.T) {
	x := New(9)
	f, d, l := made(t, x, 1, "f", File), made(t, x, 1, "d", Dir), made(t, x, 1, "l", Link)
	g := made(t, x, d, "f", File)
	r := removed(t, x, 1, Dir)
	for _, want := range []struct {
		in   Number
		name string
		n    Number
		e    api.Errno
	}{
		{1, "f", f, 0}, {1, "d", d, 0}, {1, "l", l, 0}, {d, "f", g, 0},
		{0, "f", 0, 2}, {9, "f", 0, 2}, {10, "f", 0, 2}, {math.MaxUint16, "f", 0, 2}, {0, "", 0, 2},
		{f, "f", 0, 20}, {l, "f", 0, 20}, {f, "", 0, 20}, {l, "x/", 0, 20},
		{1, "x", 0, 2}, {1, "", 0, 2}, {1, ".", 0, 2}, {1, "..", 0, 2}, {1, "/", 0, 2}, {1, "d/f", 0, 2}, {1, "F", 0, 2}, {d, "d", 0, 2},
		{r, "f", 0, 2}, {1, "gone", 0, 2}, {1, strings.Repeat("f", 15), 0, 2},
	} {
		if n, e := x.Look(want.in, want.name); n != want.n || e != want.e {
			t.Errorf("Look(%d, %q): %d, %d, want %d, %d", want.in, want.name, n, e, want.n, want.e)
		}
	}
}

// P16.1: each call counts that is OK, whether it changes anything or not; no other does.
func TestChanges(t *testing.T) {
	x := New(9)
	count := 0
	counts := func(what string, many int, e, want api.Errno) {
		t.Helper()
		count += many
		if e != want || x.Changes() != int64(count) {
			t.Errorf("%s: %d, Changes %d, want %d, %d", what, e, x.Changes(), want, count)
		}
	}
	_, e := x.Make(1, "a", File, "")
	counts("Make", 1, e, 0)
	_, e = x.Make(1, "d", Dir, "")
	counts("Make", 1, e, 0)
	_, e = x.Make(1, "a", File, "")
	counts("Make of what is there", 0, e, api.ErrExists)
	counts("Add", 1, x.Add(1, "b", 2), 0)
	counts("Add of what is there", 0, x.Add(1, "b", 2), api.ErrExists)
	counts("Write", 1, x.Write(2, 0, []byte("x")), 0)
	counts("Write of the same", 1, x.Write(2, 0, []byte("x")), 0)
	counts("Write of nothing", 1, x.Write(2, 0, nil), 0)
	counts("Write of nothing beneath the end", 1, x.Write(2, 1, nil), 0)
	counts("Write of too much", 0, x.Write(2, 1025, nil), api.ErrTooBig)
	counts("Cut", 1, x.Cut(2, 5), 0)
	counts("Cut to the same", 1, x.Cut(2, 5), 0)
	counts("Cut of a directory", 0, x.Cut(3, 5), api.ErrIsDir)
	counts("Move", 1, x.Move(1, "a", 3, "c"), 0)
	counts("Move to itself", 0, x.Move(1, "b", 1, "b"), 0)
	counts("Move to the same inode", 0, x.Move(1, "b", 3, "c"), 0)
	counts("Move of nothing", 0, x.Move(1, "a", 3, "c"), api.ErrNone)
	_, e = x.Make(1, "f", File, "")
	counts("Make", 1, e, 0)
	counts("Move to another one's name", 2, x.Move(1, "f", 3, "c"), 0)
	counts("Drop", 1, x.Drop(1, "b", false), 0)
	counts("Drop of nothing", 0, x.Drop(1, "b", false), api.ErrNone)
	counts("Drop", 0, x.Drop(1, "d", true), api.ErrNotEmpty)
	counts("Hold", 0, x.Hold(3, true), 0)
	counts("Hold", 0, x.Hold(3, false), 0)
	counts("Hold", 0, x.Hold(3, false), api.ErrInvalid)
	x.Look(1, "d")
	x.Entries(1)
	x.Spots(4)
	counts("looking", 0, 0, 0)
	if y := New(9); y.Changes() != 0 {
		t.Error("a new one was changed")
	}
}

// P16.2: what a new one of each kind has, and its directory.
func TestMake(t *testing.T) {
	x := New(9)
	for _, want := range []struct {
		k    Kind
		text string
		node Node
	}{
		{File, "", Node{Number: 2, Kind: File, Links: 1}},
		{File, "no link's", Node{Number: 3, Kind: File, Links: 1}},
		{Dir, "", Node{Number: 4, Kind: Dir, Parent: 1, Links: 1}},
		{Dir, strings.Repeat("x", 200), Node{Number: 5, Kind: Dir, Parent: 1, Links: 1}},
		{Link, "t", Node{Number: 6, Kind: Link, Text: "t", Links: 1}},
		{Link, strings.Repeat("/ä #\x00", 20), Node{Number: 7, Kind: Link, Text: strings.Repeat("/ä #\x00", 20), Links: 1}},
	} {
		name := "n" + strconv.Itoa(int(want.node.Number))
		n, e := x.Make(1, name, want.k, want.text)
		if n != want.node.Number || e != api.OK || x.Get(1).Names[name] != n {
			t.Errorf("Make(1, %s, %d, %q): %d, %d", name, want.k, want.text, n, e)
		}
		wantNode(t, x, n, &want.node)
	}
	if d := made(t, x, 5, "d", Dir); x.Get(d).Parent != 5 {
		t.Errorf("it stands in %d", x.Get(d).Parent)
	}
	if x.Get(1).Links != 1 || x.Get(5).Links != 1 {
		t.Error("a directory has a name more by one in it")
	}
}

// P16.2: of kinds there are three; a link's text has 1 to 120 bytes, another one's doesn't count.
func TestMakeKinds(t *testing.T) {
	for k := range 256 {
		for size := range 130 {
			x := New(9)
			n, e := x.Make(1, "a", Kind(k), strings.Repeat("\xe4", size))
			want := api.OK
			if k < 1 || k > 3 || k == 3 && (size < 1 || size > 120) {
				want = api.ErrInvalid
			}
			if e != want || e == api.OK && n != 2 || e != api.OK && (n != 0 || x.Len() != 1 || len(x.Get(1).Names) != 0) {
				t.Errorf("Make of kind %d, %d bytes: %d, %d", k, size, n, e)
			}
		}
	}
}

// P16.2: a directory has 32 names, whatever they are names of.
func TestMakeFull(t *testing.T) {
	x := New(256)
	for i := range 32 {
		made(t, x, 1, strconv.Itoa(i), Kind(1+i%3))
	}
	for _, k := range []Kind{File, Dir, Link, 0, 9} {
		_, e := x.Make(1, "more", k, "")
		wantErr(t, "Make in a full one", e, api.ErrNoSpace)
	}
	_, e := x.Make(1, "31", File, "")
	wantErr(t, "Make of what is there in a full one", e, api.ErrExists)
	wantErr(t, "Add in a full one", x.Add(1, "more", 2), api.ErrNoSpace)
	done(t, x.Drop(1, "7", true))
	made(t, x, 1, "more", Dir)
	wantErr(t, "Add in a full one", x.Add(1, "7", 2), api.ErrNoSpace)
	done(t, x.Drop(1, "more", true))
	wantErr(t, "Add", x.Add(1, "7", 2), api.OK)
}

// P16.2: a directory stands at most sixteen deep; what is none, seventeen.
func TestMakeDeep(t *testing.T) {
	x := New(256)
	in := Number(1)
	for deep := range 16 {
		made(t, x, in, "f", File)
		in = made(t, x, in, "d"+strconv.Itoa(deep), Dir)
	}
	n, e := x.Make(in, "d", Dir, "")
	if n != 0 || e != api.ErrNoSpace {
		t.Errorf("Make of one too deep: %d, %d", n, e)
	}
	made(t, x, in, "f", File)
	made(t, x, in, "l", Link)
	made(t, x, x.Get(in).Parent, "d", Dir)
	wantErr(t, "Add", x.Add(in, "g", 2), api.OK)
}

// P16.2: what has no name any more takes none, nor is it given one.
func TestNameless(t *testing.T) {
	x := New(9)
	d, f, a := removed(t, x, 1, Dir), removed(t, x, 1, File), made(t, x, 1, "a", File)
	was := state(x)
	for _, k := range []Kind{File, Dir, Link, 7} {
		_, e := x.Make(d, "x", k, "t")
		wantErr(t, "Make", e, api.ErrNone)
	}
	wantErr(t, "Add to it", x.Add(d, "x", a), api.ErrNone)
	wantErr(t, "Add of it", x.Add(1, "x", f), api.ErrNone)
	wantErr(t, "Move to it", x.Move(1, "a", d, "x"), api.ErrNone)
	if state(x) != was {
		t.Error("it was changed")
	}
	wantErr(t, "Write to it", x.Write(f, 0, []byte("x")), api.OK)
	wantErr(t, "Cut of it", x.Cut(f, 3), api.OK)
	wantData(t, x, f, "x\x00\x00")
	wantNode(t, x, d, &Node{Number: d, Kind: Dir, Parent: 1, Held: 1})
}

// P16.2: an inode has as many names as were added, in any directories; 256 at most.
func TestAddMany(t *testing.T) {
	x := New(20)
	f := made(t, x, 1, "f", File)
	for i := range 9 {
		d := made(t, x, 1, "d"+strconv.Itoa(i), Dir)
		for j := range 32 {
			want := api.OK
			if 1+32*i+j >= 256 {
				want = api.ErrManyLinks
			}
			wantErr(t, "Add", x.Add(d, "n"+strconv.Itoa(j), f), want)
			if got := x.Get(f).Links; got != min(256, 2+32*i+j) || got != len(x.Spots(f)) {
				t.Fatalf("%d names, %d Spots", got, len(x.Spots(f)))
			}
		}
	}
	wantWhole(t, x, "many names")
	wantErr(t, "Add where there is no directory", x.Add(19, "x", f), api.ErrNone)
	wantErr(t, "Add to what is none", x.Add(f, "x", f), api.ErrNotDir)
	wantErr(t, "Add of no Name", x.Add(1, "", f), api.ErrInvalid)
	wantErr(t, "Add of what is there", x.Add(1, "d0", f), api.ErrExists)
	wantErr(t, "Add to a full one", x.Add(3, "x", f), api.ErrNoSpace)
	wantErr(t, "Move", x.Move(1, "f", 1, "g"), api.OK)
	wantErr(t, "Drop", x.Drop(1, "g", false), api.OK)
	wantErr(t, "Add", x.Add(1, "h", f), api.OK)
	wantErr(t, "Add", x.Add(1, "i", f), api.ErrManyLinks)
	for _, s := range x.Spots(f) {
		done(t, x.Drop(s.In, s.Name, false))
	}
	wantNode(t, x, f, nil)
}

// P16.2: links may have several names, directories not.
func TestAddKinds(t *testing.T) {
	x := New(9)
	f, d, l := made(t, x, 1, "f", File), made(t, x, 1, "d", Dir), made(t, x, 1, "l", Link)
	wantErr(t, "Add of a file", x.Add(d, "x", f), api.OK)
	wantErr(t, "Add of a link", x.Add(d, "y", l), api.OK)
	for _, in := range []Number{0, 1, f, d, l, 9, 300} {
		for _, name := range []string{"", "x", "f", "new"} {
			wantErr(t, "Add of a directory", x.Add(in, name, d), api.ErrPerm)
			wantErr(t, "Add of the root", x.Add(in, name, 1), api.ErrPerm)
			wantErr(t, "Add of nothing", x.Add(in, name, 9), api.ErrNone)
		}
	}
	wantNode(t, x, l, &Node{Number: l, Kind: Link, Text: "t", Links: 2})
}

// P16.2: Drop of each kind; what still has a name, or is held, is still there.
func TestDrop(t *testing.T) {
	x := New(9)
	f, d, l := made(t, x, 1, "f", File), made(t, x, 1, "d", Dir), made(t, x, 1, "l", Link)
	g := made(t, x, d, "g", File)
	done(t, x.Add(1, "f2", f))
	for _, want := range []struct {
		in   Number
		name string
		dir  bool
		e    api.Errno
	}{
		{0, "f", false, 2}, {9, "f", true, 2}, {f, "f", false, 20}, {l, "f", true, 20}, {1, "x", false, 2}, {1, "", true, 2}, {1, ".", true, 2}, {d, "..", true, 2},
		{1, "f", true, 20}, {1, "l", true, 20}, {1, "d", false, 21}, {1, "d", true, 39},
	} {
		was := state(x)
		wantErr(t, fmt.Sprintf("%+v", want), x.Drop(want.in, want.name, want.dir), want.e)
		if state(x) != was {
			t.Errorf("%+v: it was changed", want)
		}
	}
	done(t, x.Drop(1, "f", false))
	wantNode(t, x, f, &Node{Number: f, Kind: File, Links: 1})
	done(t, x.Drop(1, "f2", false))
	wantNode(t, x, f, nil)
	done(t, x.Drop(d, "g", false))
	wantNode(t, x, g, nil)
	done(t, x.Drop(1, "d", true))
	done(t, x.Drop(1, "l", false))
	if x.Len() != 1 || len(x.Get(1).Names) != 0 || x.Get(1).Links != 1 {
		t.Errorf("%s", state(x))
	}
}

// P16.3: what is held is there till it is held no more, and has no name; what wasn't held can't be held less.
func TestHold(t *testing.T) {
	for _, k := range []Kind{File, Dir, Link} {
		x := New(9)
		n := made(t, x, 1, "a", k)
		for _, none := range []Number{0, 3, 10, math.MaxUint16} {
			wantErr(t, "Hold of nothing", x.Hold(none, true), api.ErrNone)
			wantErr(t, "Hold of nothing", x.Hold(none, false), api.ErrNone)
		}
		wantErr(t, "Hold of what isn't held", x.Hold(n, false), api.ErrInvalid)
		for i := range 300 {
			done(t, x.Hold(n, true))
			if x.Get(n).Held != i+1 {
				t.Fatalf("held %d", x.Get(n).Held)
			}
		}
		done(t, x.Drop(1, "a", k == Dir))
		for i := range 299 {
			done(t, x.Hold(n, false))
			if y := x.Get(n); y == nil || y.Held != 299-i || y.Links != 0 {
				t.Fatalf("%s", asText(y))
			}
		}
		done(t, x.Hold(n, false))
		wantNode(t, x, n, nil)
		wantErr(t, "Hold of what is gone", x.Hold(n, true), api.ErrNone)
	}
}

// P16.3: what has a name is there, held or not; so is the root.
func TestHoldNamed(t *testing.T) {
	x := New(9)
	made(t, x, 1, "a", Dir)
	for _, n := range []Number{1, 2} {
		done(t, x.Hold(n, true))
		done(t, x.Hold(n, true))
		done(t, x.Hold(n, false))
		done(t, x.Hold(n, false))
		wantErr(t, "Hold", x.Hold(n, false), api.ErrInvalid)
		if x.Get(n) == nil || x.Get(n).Held != 0 {
			t.Errorf("%s", asText(x.Get(n)))
		}
	}
	done(t, x.Hold(2, true))
	done(t, x.Drop(1, "a", true))
	wantErr(t, "Hold of what has no name", x.Hold(2, true), api.OK)
	if x.Get(2).Held != 2 {
		t.Errorf("%s", asText(x.Get(2)))
	}
}

// P16.3: a directory is within itself, and those it stands in; nothing else is, nor is anything within it.
func TestWithin(t *testing.T) {
	x := New(30)
	a := made(t, x, 1, "a", Dir)
	b := made(t, x, a, "b", Dir)
	c := made(t, x, b, "c", Dir)
	d := made(t, x, a, "d", Dir)
	f, l := made(t, x, b, "f", File), made(t, x, b, "l", Link)
	within := map[[2]Number]bool{
		{1, 1}: true, {a, 1}: true, {b, 1}: true, {c, 1}: true, {d, 1}: true,
		{a, a}: true, {b, a}: true, {c, a}: true, {d, a}: true,
		{b, b}: true, {c, b}: true, {c, c}: true, {d, d}: true,
	}
	for n := range Number(34) {
		for outer := range Number(34) {
			if got := x.Within(n, outer); got != within[[2]Number{n, outer}] {
				t.Errorf("Within(%d, %d): %v (file %d, link %d)", n, outer, got, f, l)
			}
		}
	}
	done(t, x.Move(b, "c", d, "c"))
	if x.Within(c, b) || !x.Within(c, d) || !x.Within(c, a) {
		t.Error("it still is where it was")
	}
	deep := chain(t, x, d, 14)
	for n := deep; n != d; n = x.Get(n).Parent {
		if !x.Within(deep, n) || n != deep && x.Within(n, deep) || !x.Within(n, 1) {
			t.Errorf("Within of %d and %d", deep, n)
		}
	}
}

// P16.3: a directory that was removed keeps its Parent: that is where it stands, whatever has that number by now.
func TestWithinRemoved(t *testing.T) {
	x := New(9)
	a := made(t, x, 1, "a", Dir)
	r := removed(t, x, a, Dir)
	want := func(what string, in, root bool) {
		t.Helper()
		if x.Within(r, a) != in || x.Within(r, 1) != root || !x.Within(r, r) || x.Get(r).Parent != a || x.Within(a, r) {
			t.Errorf("%s: %v, %v, %v; %s", what, x.Within(r, a), x.Within(r, 1), x.Within(r, r), asText(x.Get(r)))
		}
	}
	want("removed", true, true)
	done(t, x.Drop(1, "a", true))
	want("its Parent is gone", false, false)
	made(t, x, 1, "f", File)
	want("its Parent is a file", false, false)
	done(t, x.Drop(1, "f", false))
	made(t, x, 1, "d", Dir)
	want("its Parent is another directory", true, true)
}

// P16.3: names rise byte by byte, each time, whatever they are names of.
func TestEntries(t *testing.T) {
	x := New(40)
	d := made(t, x, 1, "dir", Dir)
	names := []string{"b", "a", "B", "aa", "a-", "~", "!", "a0", "a.", "...", "Z", "10", "9", "abcdefghijklmn", "abcdefghijklm", "ab", "_", "z"}
	for i, name := range names {
		made(t, x, d, name, Kind(1+i%3))
	}
	want := []string{"!", "...", "10", "9", "B", "Z", "_", "a", "a-", "a.", "a0", "aa", "ab", "abcdefghijklm", "abcdefghijklmn", "b", "z", "~"}
	for range 20 {
		if got, e := x.Entries(d); !slices.Equal(got, want) || e != api.OK {
			t.Errorf("Entries: %q, %d", got, e)
		}
	}
	if got, e := x.Entries(1); !slices.Equal(got, []string{"dir"}) || e != api.OK {
		t.Errorf("Entries of the root: %q, %d", got, e)
	}
	r := removed(t, x, 1, Dir)
	for n, want := range map[Number]api.Errno{r: 0, 0: 2, 39: 2, 99: 2, 3: 20, 5: 20, 4: 0} {
		if got, e := x.Entries(n); len(got) != 0 || e != want {
			t.Errorf("Entries(%d): %q, %d", n, got, e)
		}
	}
}

// P16.3: all names of an inode, by the directories' numbers, not by the order in which they came.
func TestSpots(t *testing.T) {
	x := New(40)
	a := made(t, x, 1, "z", Dir)
	b := made(t, x, 1, "y", Dir)
	c := made(t, x, b, "x", Dir)
	f, g := made(t, x, c, "f", File), made(t, x, c, "g", File)
	for _, s := range []Spot{{1, "q"}, {c, "e"}, {a, "o"}, {b, "n"}, {a, "m"}, {b, "Z"}, {a, "mm"}, {1, "B"}, {c, "!"}} {
		done(t, x.Add(s.In, s.Name, f))
	}
	done(t, x.Add(a, "g", g))
	want := []Spot{{1, "B"}, {1, "q"}, {a, "m"}, {a, "mm"}, {a, "o"}, {b, "Z"}, {b, "n"}, {c, "!"}, {c, "e"}, {c, "f"}}
	for range 20 {
		if got := x.Spots(f); !slices.Equal(got, want) {
			t.Errorf("Spots: %v", got)
		}
	}
	for n, want := range map[Number][]Spot{g: {{a, "g"}, {c, "g"}}, a: {{1, "z"}}, c: {{b, "x"}}, 1: nil, 0: nil, 30: nil, 41: nil, 999: nil, removed(t, x, 1, Dir): nil, removed(t, x, 1, File): nil} {
		if got := x.Spots(n); !slices.Equal(got, want) {
			t.Errorf("Spots(%d): %v, want %v", n, got, want)
		}
	}
}

// P16.3: a name moves, in its directory and to another one; what it is the name of stays the same.
func TestMove(t *testing.T) {
	x := New(9)
	f, d, e := made(t, x, 1, "f", File), made(t, x, 1, "d", Dir), made(t, x, 1, "e", Dir)
	done(t, x.Write(f, 0, []byte("text")))
	done(t, x.Hold(f, true))
	done(t, x.Move(1, "f", 1, "g"))
	wantNode(t, x, 1, &Node{Number: 1, Kind: Dir, Names: map[string]Number{"g": f, "d": d, "e": e}, Parent: 1, Links: 1})
	done(t, x.Move(1, "g", d, "f"))
	wantNode(t, x, f, &Node{Number: f, Kind: File, Data: []byte("text"), Links: 1, Held: 1})
	wantNode(t, x, d, &Node{Number: d, Kind: Dir, Names: map[string]Number{"f": f}, Parent: 1, Links: 1})
	done(t, x.Move(1, "d", e, "d"))
	wantNode(t, x, d, &Node{Number: d, Kind: Dir, Names: map[string]Number{"f": f}, Parent: e, Links: 1})
	done(t, x.Move(e, "d", e, "dd"))
	done(t, x.Move(e, "dd", 1, "d"))
	wantNode(t, x, d, &Node{Number: d, Kind: Dir, Names: map[string]Number{"f": f}, Parent: 1, Links: 1})
	wantWhole(t, x, "Move")
}

// P16.3: what has the other name loses it; it is gone, if it has no other, and isn't held.
func TestMoveOver(t *testing.T) {
	for _, k := range []Kind{File, Link} {
		x := New(9)
		a, b := made(t, x, 1, "a", File), made(t, x, 1, "b", k)
		c, d := made(t, x, 1, "c", Link), made(t, x, 1, "d", Dir)
		done(t, x.Add(d, "b", b))
		done(t, x.Move(1, "a", 1, "b"))
		if x.Get(b) == nil || x.Get(b).Links != 1 || x.Get(1).Names["b"] != a {
			t.Errorf("%s", state(x))
		}
		done(t, x.Hold(b, true))
		done(t, x.Move(1, "c", d, "b"))
		if x.Get(b) == nil || x.Get(b).Links != 0 || x.Get(d).Names["b"] != c || len(x.Get(1).Names) != 2 {
			t.Errorf("%s", state(x))
		}
		done(t, x.Move(d, "b", 1, "b"))
		wantNode(t, x, a, nil)
		wantWhole(t, x, "Move over")
	}
	x := New(9)
	d, e := made(t, x, 1, "d", Dir), made(t, x, 1, "e", Dir)
	made(t, x, d, "f", File)
	done(t, x.Move(1, "d", 1, "e"))
	wantNode(t, x, e, nil)
	if n, _ := x.Look(1, "e"); n != d || x.Len() != 3 {
		t.Errorf("%s", state(x))
	}
}

// P16.3: of the same inode a move is OK, and changes nothing, whatever else might be said of it.
func TestMoveSame(t *testing.T) {
	x := New(20)
	f, d := made(t, x, 1, "f", File), made(t, x, 1, "d", Dir)
	fill(t, x, d, f)
	was := state(x)
	wantErr(t, "Move to another name of it", x.Move(1, "f", d, "n3"), api.OK)
	wantErr(t, "Move to another name of it", x.Move(d, "n3", d, "n4"), api.OK)
	wantErr(t, "Move to itself", x.Move(d, "n3", d, "n3"), api.OK)
	wantErr(t, "Move of a directory to itself", x.Move(1, "d", 1, "d"), api.OK)
	if state(x) != was {
		t.Error("it was changed")
	}
}

// P16.3: a full directory takes no name more, but instead of one that it has.
func TestMoveFull(t *testing.T) {
	x := New(20)
	f, g, d := made(t, x, 1, "f", File), made(t, x, 1, "g", File), made(t, x, 1, "d", Dir)
	fill(t, x, d, f)
	wantErr(t, "Move to a full one", x.Move(1, "g", d, "more"), api.ErrNoSpace)
	wantErr(t, "Move to a full one, of no Name", x.Move(1, "g", d, ""), api.ErrNoSpace)
	wantErr(t, "Move within a full one, of no Name", x.Move(d, "n3", d, ""), api.ErrInvalid)
	wantErr(t, "Move within a full one", x.Move(d, "n3", d, "more"), api.OK)
	wantErr(t, "Move to a full one, over a name", x.Move(1, "g", d, "more"), api.OK)
	if len(x.Get(d).Names) != 32 || x.Get(d).Names["more"] != g || x.Get(f).Links != 32 {
		t.Errorf("%s", state(x))
	}
	wantWhole(t, x, "Move to a full one")
	done(t, x.Drop(d, "more", false))
	wantErr(t, "Move to one that has 31", x.Move(1, "f", d, "last"), api.OK)
}

// P16.3: a directory doesn't move into itself, nor to what stands in it.
func TestMoveWithin(t *testing.T) {
	x := New(20)
	a := made(t, x, 1, "a", Dir)
	b := made(t, x, a, "b", Dir)
	c := made(t, x, b, "c", Dir)
	was := state(x)
	for _, to := range []Number{a, b, c} {
		wantErr(t, "Move into itself", x.Move(1, "a", to, "x"), api.ErrInvalid)
		wantErr(t, "Move into itself, of no Name", x.Move(1, "a", to, "/"), api.ErrInvalid)
	}
	wantErr(t, "Move over what stands in it", x.Move(1, "a", a, "b"), api.ErrInvalid)
	wantErr(t, "Move over what it stands in", x.Move(a, "b", 1, "a"), api.ErrNotEmpty)
	wantErr(t, "Move over what it stands in", x.Move(b, "c", 1, "a"), api.ErrNotEmpty)
	if state(x) != was {
		t.Error("it was changed")
	}
	made(t, x, c, "f", File)
	wantErr(t, "Move of a file", x.Move(c, "f", 1, "f"), api.OK)
	wantErr(t, "Move of a file", x.Move(1, "f", c, "f"), api.OK)
	wantErr(t, "Move upwards", x.Move(b, "c", 1, "c"), api.OK)
	wantErr(t, "Move downwards", x.Move(1, "a", c, "a"), api.OK)
	if !x.Within(b, c) || x.Within(c, a) {
		t.Errorf("%s", state(x))
	}
	wantWhole(t, x, "Move")
}

// P16.3: no directory gets more than sixteen deep by a move, however many stand in what moves, and wherever among its names; what is no directory may.
func TestMoveDeep(t *testing.T) {
	for to := range 17 {
		for high := range 16 {
			for _, ahead := range []string{"", "A", "b", "Ab"} {
				x := New(60)
				in := Number(1)
				for range to {
					in = made(t, x, in, "t", Dir)
				}
				m := made(t, x, 1, "m", Dir)
				for _, name := range ahead {
					made(t, x, m, string(name), Dir)
				}
				deep := chain(t, x, m, high)
				made(t, x, deep, "f", File)
				want := api.OK
				if to+1+max(high, min(len(ahead), 1)) > 16 {
					want = api.ErrNoSpace
				}
				wantErr(t, fmt.Sprintf("Move of one with %d to %d deep", high, to), x.Move(1, "m", in, "m"), want)
				wantErr(t, "Move of a file", x.Move(deep, "f", in, "f"), api.OK)
				wantWhole(t, x, "Move")
			}
		}
	}
}

// P16.3: too deep comes ahead of what is wrong with what has the name, and behind no Name, and into itself.
func TestMoveDeepOrder(t *testing.T) {
	x := New(60)
	in := chain(t, x, 1, 16)
	made(t, x, 1, "m", Dir)
	made(t, x, in, "f", File)
	wantErr(t, "Move over a file, too deep", x.Move(1, "m", in, "f"), api.ErrNoSpace)
	wantErr(t, "Move too deep, of no Name", x.Move(1, "m", in, "."), api.ErrInvalid)
	wantErr(t, "Move too deep, into itself", x.Move(1, "a", in, "x"), api.ErrInvalid)
	wantErr(t, "Move over a directory with names", x.Move(1, "m", 1, "a"), api.ErrNotEmpty)
}

// scene is a table with something of each kind for each error, and the numbers of its inodes, and of some that there aren't. With room there may be some more.
func scene(t *testing.T, room int) (*Table, []Number) {
	t.Helper()
	x := New(256)
	f, l := made(t, x, 1, "f", File), made(t, x, 1, "l", Link)
	d, e := made(t, x, 1, "d", Dir), made(t, x, 1, "e", Dir)
	sub, g := made(t, x, d, "sub", Dir), made(t, x, d, "f", File)
	full := made(t, x, 1, "full", Dir)
	made(t, x, full, "e", Dir)
	made(t, x, full, "d", Dir)
	done(t, x.Add(full, "f", f))
	fill(t, x, full, g)
	deep := chain(t, x, 1, 15)
	deepest := chain(t, x, deep, 1)
	made(t, x, deepest, "f", File)
	made(t, x, deep, "e", Dir)
	done(t, x.Add(sub, "g", g))
	gone, nameless := removed(t, x, d, Dir), removed(t, x, e, File)
	x.nodes = x.nodes[:x.Len()+1+room]
	return x, []Number{0, 1, f, l, d, e, sub, full, deep, deepest, gone, nameless, Number(len(x.nodes)), math.MaxUint16}
}

// toldOf is a table told once more.
func toldOf(x *Table) *told {
	m := &told{limit: len(x.nodes) - 1, inodes: map[Number]toldInode{}, changes: x.Changes()}
	for _, n := range x.Numbers() {
		y := x.Get(n)
		m.inodes[n] = toldInode{kind: y.Kind, data: string(y.Data), text: y.Text, parent: y.Parent, held: y.Held}
		for name, to := range y.Names {
			m.names = append(m.names, toldName{n, name, to})
		}
	}
	return m
}

// swept makes a call of a scene, and of the same told once more, and wants both to answer, and to be, the same.
func swept(t *testing.T, x *Table, what string, call func(x *Table) (Number, api.Errno), told func(m *told) (Number, api.Errno)) api.Errno {
	t.Helper()
	y, m := copied(x), toldOf(x)
	n, e := call(y)
	k, f := told(m)
	if n != k || e != f {
		t.Fatalf("%s: %d, %d, want %d, %d", what, n, e, k, f)
	}
	if e != api.OK {
		if state(y) != state(x) {
			t.Fatalf("%s: %d, but it was changed", what, e)
		}
		return e
	}
	for n := range Number(m.limit + 1) {
		if got, want := asText(y.Get(n)), asText(m.node(n)); got != want {
			t.Fatalf("%s: %s, want %s", what, got, want)
		}
	}
	if y.Changes() != m.changes {
		t.Fatalf("%s: Changes %d, want %d", what, y.Changes(), m.changes)
	}
	wantWhole(t, y, what)
	return e
}

// sweepNames is names of which some are there, some may be, some may not.
var sweepNames = []string{"f", "d", "e", "sub", "a", "n3", "new", "", "a/b", "fifteen-letters"}

// wantSeen wants a sweep to have seen each of these errors.
func wantSeen(t *testing.T, seen map[api.Errno]int, want ...api.Errno) {
	t.Helper()
	for _, e := range want {
		if seen[e] == 0 {
			t.Errorf("the sweep has no %d", e)
		}
	}
	if len(seen) != len(want) {
		t.Errorf("the sweep has %v", seen)
	}
}

// P16.2, R2, R4: Make's errors in their order, of all that may be wrong at once; what fails changes nothing.
func TestMakeSweep(t *testing.T) {
	seen := map[api.Errno]int{}
	for _, room := range []int{0, 1} {
		x, numbers := scene(t, room)
		for _, in := range numbers {
			for _, name := range sweepNames {
				for k := range Kind(5) {
					for _, size := range []int{0, 1, 120, 121} {
						text := strings.Repeat("t", size)
						e := swept(t, x, fmt.Sprintf("Make(%d, %q, %d, %d bytes)", in, name, k, size),
							func(x *Table) (Number, api.Errno) { return x.Make(in, name, k, text) },
							func(m *told) (Number, api.Errno) { return m.make(in, name, k, text) })
						seen[e]++
					}
				}
			}
		}
	}
	wantSeen(t, seen, api.OK, api.ErrNone, api.ErrNotDir, api.ErrInvalid, api.ErrExists, api.ErrNoSpace)
}

// P16.2, R2, R4: Add's and Drop's likewise.
func TestAddDropSweep(t *testing.T) {
	adds, drops := map[api.Errno]int{}, map[api.Errno]int{}
	x, numbers := scene(t, 0)
	for _, in := range numbers {
		for _, name := range sweepNames {
			for _, n := range numbers {
				e := swept(t, x, fmt.Sprintf("Add(%d, %q, %d)", in, name, n),
					func(x *Table) (Number, api.Errno) { return 0, x.Add(in, name, n) },
					func(m *told) (Number, api.Errno) { return 0, m.add(in, name, n) })
				adds[e]++
			}
			for _, dir := range []bool{false, true} {
				e := swept(t, x, fmt.Sprintf("Drop(%d, %q, %v)", in, name, dir),
					func(x *Table) (Number, api.Errno) { return 0, x.Drop(in, name, dir) },
					func(m *told) (Number, api.Errno) { return 0, m.drop(in, name, dir) })
				drops[e]++
			}
		}
	}
	wantSeen(t, adds, api.OK, api.ErrNone, api.ErrPerm, api.ErrNotDir, api.ErrInvalid, api.ErrExists, api.ErrNoSpace)
	wantSeen(t, drops, api.OK, api.ErrNone, api.ErrNotDir, api.ErrIsDir, api.ErrNotEmpty)
}

// P16.3, R2, R4: Move's likewise.
func TestMoveSweep(t *testing.T) {
	seen := map[api.Errno]int{}
	x, numbers := scene(t, 0)
	for _, from := range numbers {
		for _, name := range sweepNames {
			for _, to := range numbers {
				for _, other := range sweepNames {
					e := swept(t, x, fmt.Sprintf("Move(%d, %q, %d, %q)", from, name, to, other),
						func(x *Table) (Number, api.Errno) { return 0, x.Move(from, name, to, other) },
						func(m *told) (Number, api.Errno) { return 0, m.move(from, name, to, other) })
					seen[e]++
				}
			}
		}
	}
	wantSeen(t, seen, api.OK, api.ErrNone, api.ErrNotDir, api.ErrNoSpace, api.ErrInvalid, api.ErrIsDir, api.ErrNotEmpty)
}

// P16.4: bytes stand where they are written, the others stay, noughts stand between; of no bytes, too.
func TestWrite(t *testing.T) {
	x := New(9)
	n := made(t, x, 1, "f", File)
	for _, want := range []struct {
		at   int
		b    string
		data string
	}{
		{0, "", ""}, {2, "hi", "\x00\x00hi"}, {0, "ab", "abhi"}, {1, "xy", "axyi"}, {3, "12", "axy12"}, {5, "", "axy12"}, {5, "z", "axy12z"},
		{0, "", "axy12z"}, {3, "", "axy12z"}, {8, "", "axy12z\x00\x00"}, {10, "Q", "axy12z\x00\x00\x00\x00Q"}, {0, "\x00\xff", "\x00\xffy12z\x00\x00\x00\x00Q"},
	} {
		wantErr(t, "Write", x.Write(n, want.at, []byte(want.b)), api.OK)
		wantData(t, x, n, want.data)
	}
	other := made(t, x, 1, "g", File)
	wantData(t, x, other, "")
	if y := x.Get(n); y.Kind != File || y.Links != 1 || y.Text != "" || y.Parent != 0 {
		t.Errorf("%s", asText(y))
	}
}

// P16.4: a file has at most 1024 bytes, however it would get more, at numbers that go round, too.
func TestWriteTooBig(t *testing.T) {
	for _, had := range []int{0, 1, 1000, 1024} {
		for _, at := range []int{0, 1, 500, 999, 1000, 1022, 1023, 1024, 1025, 2000, 1 << 31, 1 << 32, math.MaxInt - 1024, math.MaxInt - 1, math.MaxInt} {
			for _, many := range []int{0, 1, 2, 24, 25, 524, 525, 1023, 1024, 1025, 5000} {
				x := New(9)
				n := made(t, x, 1, "f", File)
				done(t, x.Cut(n, had))
				was := state(x)
				want := api.OK
				if at > 1024 || at+many > 1024 {
					want = api.ErrTooBig
				}
				wantErr(t, fmt.Sprintf("Write of %d at %d", many, at), x.Write(n, at, make([]byte, many)), want)
				if want != api.OK && state(x) != was {
					t.Errorf("Write of %d at %d changed it", many, at)
				}
				if want == api.OK && len(x.Get(n).Data) != max(had, at+many) {
					t.Errorf("Write of %d at %d: %d bytes", many, at, len(x.Get(n).Data))
				}
			}
		}
	}
}

// P16.4, R2: what else is wrong, in its order, of both.
func TestWriteWrong(t *testing.T) {
	x := New(9)
	f, d, l := made(t, x, 1, "f", File), made(t, x, 1, "d", Dir), made(t, x, 1, "l", Link)
	done(t, x.Write(f, 0, []byte("text")))
	was := state(x)
	for _, n := range []Number{0, 1, f, d, l, 5, 9, 10, math.MaxUint16} {
		for _, at := range []int{math.MinInt, math.MinInt + 5, -1025, -4, -1, 1025, math.MaxInt} {
			want := api.ErrNone
			switch {
			case n == 1 || n == d:
				want = api.ErrIsDir
			case n == l || n == f && at < 0:
				want = api.ErrInvalid
			case n == f:
				want = api.ErrTooBig
			}
			for _, b := range [][]byte{nil, {}, []byte("abcd"), make([]byte, 2000)} {
				wantErr(t, fmt.Sprintf("Write(%d, %d, %d bytes)", n, at, len(b)), x.Write(n, at, b), want)
			}
			wantErr(t, fmt.Sprintf("Cut(%d, %d)", n, at), x.Cut(n, at), want)
		}
	}
	for n, want := range map[Number]api.Errno{0: api.ErrNone, 1: api.ErrIsDir, d: api.ErrIsDir, l: api.ErrInvalid, 5: api.ErrNone} {
		wantErr(t, "Write of nothing", x.Write(n, 0, nil), want)
		wantErr(t, "Cut to nothing", x.Cut(n, 0), want)
	}
	if state(x) != was {
		t.Error("it was changed")
	}
}

// P16.4: just the first bytes are left, noughts stand behind; what was cut off doesn't come back.
func TestCut(t *testing.T) {
	x := New(9)
	n := made(t, x, 1, "f", File)
	for had := range 12 {
		for size := range 12 {
			for again := range 12 {
				done(t, x.Cut(n, 0))
				done(t, x.Write(n, 0, []byte("abcdefghijklmn")[:had]))
				done(t, x.Cut(n, size))
				want := ("abcdefghijklmn"[:had] + strings.Repeat("\x00", 20))[:size]
				wantData(t, x, n, want)
				done(t, x.Cut(n, again))
				want = (want + strings.Repeat("\x00", 20))[:again]
				wantData(t, x, n, want)
				done(t, x.Write(n, 13, nil))
				wantData(t, x, n, want+strings.Repeat("\x00", 13-again))
			}
		}
	}
	done(t, x.Cut(n, 0))
	for _, size := range []int{1, 1023, 1024, 0} {
		wantErr(t, "Cut", x.Cut(n, size), api.OK)
		wantData(t, x, n, strings.Repeat("\x00", size))
	}
	wantErr(t, "Cut", x.Cut(n, 1025), api.ErrTooBig)
	wantData(t, x, n, "")
}

// R6: what is written is neither changed nor kept, though it be the file's own bytes.
func TestWriteMemory(t *testing.T) {
	x := New(9)
	n := made(t, x, 1, "f", File)
	in := []byte("abcdef")
	done(t, x.Write(n, 0, in[:3]))
	copy(in, "XYZXYZ")
	wantData(t, x, n, "abc")
	own := x.Get(n).Data
	done(t, x.Write(n, 1, own))
	wantData(t, x, n, "aabc")
	if string(own) != "abc" {
		t.Errorf("what was handed in is %q", own)
	}
	own = x.Get(n).Data[:2]
	done(t, x.Write(n, 2, own))
	wantData(t, x, n, "aaaa")
	own = x.Get(n).Data
	done(t, x.Cut(n, 2))
	done(t, x.Write(n, 4, []byte("z")))
	if string(own) != "aaaa" {
		t.Errorf("what was handed in is %q", own)
	}
	wantData(t, x, n, "aa\x00\x00z")
}

// R6: what is answered is new memory.
func TestAnswersAreNew(t *testing.T) {
	x := New(9)
	for _, name := range []string{"a", "b", "c"} {
		made(t, x, 1, name, Dir)
	}
	n := made(t, x, 2, "f", File)
	done(t, x.Add(3, "f", n))
	was := state(x)
	numbers, spots := x.Numbers(), x.Spots(n)
	entries, _ := x.Entries(1)
	clear(x.Numbers())
	clear(x.Spots(n))
	again, _ := x.Entries(1)
	clear(again)
	if !slices.Equal(numbers, []Number{1, 2, 3, 4, 5}) || !slices.Equal(spots, []Spot{{2, "f"}, {3, "f"}}) || !slices.Equal(entries, []string{"a", "b", "c"}) || state(x) != was {
		t.Errorf("%v, %v, %v, %s", numbers, spots, entries, state(x))
	}
	clear(numbers[:cap(numbers)])
	clear(spots[:cap(spots)])
	clear(entries[:cap(entries)])
	if state(x) != was || len(x.Spots(n)) != 2 {
		t.Error("an answer is the table's own")
	}
}

// wantNothing wants a table without inodes to answer ErrNone, or nothing.
func wantNothing(t *testing.T, x *Table) {
	t.Helper()
	for _, n := range []Number{0, 1, 2, math.MaxUint16} {
		_, made := x.Make(n, "a", File, "")
		_, bad := x.Make(n, "", 0, "")
		_, look := x.Look(n, "a")
		l, entries := x.Entries(n)
		for i, e := range []api.Errno{made, bad, look, entries, x.Add(n, "a", n), x.Drop(n, "a", true), x.Drop(n, "", false), x.Move(n, "a", n, "a"), x.Move(n, "", 1, ""), x.Hold(n, true), x.Hold(n, false), x.Write(n, 0, nil), x.Write(n, -1, nil), x.Cut(n, 0), x.Cut(n, 2000)} {
			wantErr(t, fmt.Sprintf("call %d of %d", i, n), e, api.ErrNone)
		}
		if x.Get(n) != nil || len(l) != 0 || len(x.Spots(n)) != 0 || x.Within(n, n) || x.Within(n, 1) {
			t.Errorf("%d is there", n)
		}
	}
	if x.Len() != 0 || len(x.Numbers()) != 0 || x.Changes() != 0 {
		t.Errorf("%d, %v, %d", x.Len(), x.Numbers(), x.Changes())
	}
}

// P16.1, R7: of a nil table calls answer ErrNone, or zero values; so they do of one that New didn't make, which has no root.
func TestNil(t *testing.T) {
	wantNothing(t, nil)
	wantNothing(t, &Table{})
}

// P16.1 to P16.4, P7, R4, R8: calls by chance, of tables of all small limits, held against the same told once more; behind each of them all fits together.
func TestByChance(t *testing.T) {
	for seed := range int64(160) {
		c := &chance{both: newBoth(t, 1+int(seed)%12), r: rand.New(rand.NewSource(seed)), names: []string{"a", "b", "c", "d"}}
		for range 250 {
			c.call()
		}
	}
}

// The same, where directories stand deep already.
func TestByChanceDeep(t *testing.T) {
	for seed := range int64(60) {
		c := &chance{both: newBoth(t, 30), r: rand.New(rand.NewSource(1000 + seed)), names: []string{"a", "b"}}
		for in := Number(1); in != 0 && c.m.deep(in) < 10+c.r.Intn(7); {
			in = c.make(in, "a", Dir, "")
		}
		for range 120 {
			c.call()
		}
	}
}

// The same, where directories are full, or nearly.
func TestByChanceFull(t *testing.T) {
	for seed := range int64(20) {
		c := &chance{both: newBoth(t, 8), r: rand.New(rand.NewSource(2000 + seed))}
		f := c.make(1, "f", File, "")
		for _, d := range []Number{c.make(1, "d", Dir, ""), c.make(1, "e", Dir, "")} {
			for i := range 31 {
				c.add(d, "n"+strconv.Itoa(i), f)
			}
		}
		c.names = []string{"f", "d", "e", "n1", "n2", "new", "newer", "newest"}
		for range 60 {
			c.call()
		}
	}
}
