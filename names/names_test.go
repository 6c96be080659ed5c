package names

import (
	"strings"
	"sync"
	"testing"

	"pinfold/api"
)

// told is the document's own list, written out once more: constants that were changed would else change along with what they are held against.
var told = []Call{
	{0, "read", 2}, {1, "write", 2}, {2, "open", 2}, {3, "close", 1}, {4, "stat", 1},
	{8, "seek", 2}, {32, "dup", 1}, {39, "pid", 0}, {41, "socket", 0}, {42, "connect", 2},
	{49, "bind", 2}, {50, "listen", 1}, {57, "fork", 0}, {60, "exit", 1}, {77, "truncate", 2},
	{78, "readdir", 1}, {79, "cwd", 0}, {80, "chdir", 1}, {82, "rename", 2}, {83, "mkdir", 1},
	{84, "rmdir", 1}, {86, "link", 2}, {87, "unlink", 1}, {88, "symlink", 2}, {89, "readlink", 1},
	{157, "prctl", 1}, {165, "mount", 2}, {166, "umount", 1}, {317, "seccomp", 1}, {446, "restrict", 1},
}

func sameCalls(a, b []Call) bool {
	if len(a) != len(b) {
		return false
	}
	for i := range a {
		if a[i] != b[i] {
			return false
		}
	}
	return true
}

func wantCounts(t *testing.T, what string, x *Table, asked, made int64) {
	t.Helper()
	if a, m := x.Counts(); a != asked || m != made {
		t.Errorf("%s: counts %d, %d; want %d, %d", what, a, m, asked, made)
	}
}

// P1.1: the constants are the numbers that the document gives them.
func TestConstants(t *testing.T) {
	got := []uint32{
		Read, Write, Open, Close, Stat, Seek, Dup, Pid, Socket, Connect, Bind, Listen, Fork, Exit, Truncate,
		ReadDir, Cwd, Chdir, Rename, Mkdir, Rmdir, Link, Unlink, Symlink, ReadLink, Prctl, Mount, Umount, Seccomp, Restrict,
	}
	if len(got) != len(told) {
		t.Fatalf("%d constants; want %d", len(got), len(told))
	}
	for i, n := range got {
		if n != told[i].Number {
			t.Errorf("constant of %s is %d; want %d", told[i].Name, n, told[i].Number)
		}
	}
}

// P1.1: each call is found by its name and by its number, whichever is asked first.
func TestFound(t *testing.T) {
	for _, want := range told {
		byName, byNumber := New(), New()
		if c, ok := byName.Named(want.Name); !ok || c != want {
			t.Errorf("Named(%q): %v, %v", want.Name, c, ok)
		}
		if c, ok := byNumber.Numbered(want.Number); !ok || c != want {
			t.Errorf("Numbered(%d): %v, %v", want.Number, c, ok)
		}
	}
}

// P1.1, R3: a name that no call has: false, and an empty call.
func TestNoName(t *testing.T) {
	x := New()
	for _, s := range []string{
		"", " ", "Open", "OPEN", "open ", " open", "opens", "ope", "open\x00", "ReadDir", "read-dir", "read_dir", "ReadLink",
		"0", "2", "creat", "kill", "\xff", "öpen", strings.Repeat("open", 100000),
	} {
		if c, ok := x.Named(s); ok || c != (Call{}) {
			t.Errorf("Named(%.20q): %v, %v", s, c, ok)
		}
	}
}

// P1.1, R3: no number has a call but the thirty.
func TestNoNumber(t *testing.T) {
	x := New()
	is := map[uint32]Call{}
	for _, c := range told {
		is[c.Number] = c
	}
	check := func(n uint32) {
		want, there := is[n]
		if c, ok := x.Numbered(n); ok != there || c != want {
			t.Errorf("Numbered(%d): %v, %v", n, c, ok)
		}
	}
	for n := range uint32(1024) {
		check(n)
		check(n << 16)
		check(1<<32 - 1 - n)
		check(1<<31 + n)
	}
}

// P1.1: all calls, by their numbers, each time the same.
func TestAll(t *testing.T) {
	x := New()
	for range 32 {
		if all := x.All(); !sameCalls(all, told) {
			t.Fatalf("All: %v", all)
		}
	}
}

// R6: what All answered may be written over: neither the table nor another answer changes.
func TestAllIsNew(t *testing.T) {
	x := New()
	first, second := x.All(), x.All()
	clear(first)
	for i := range first[:cap(first)] {
		first[:cap(first)][i] = Call{7, "seven", 7}
	}
	if !sameCalls(second, told) || !sameCalls(x.All(), told) || !sameCalls(New().All(), told) {
		t.Error("an answer of All shares memory with the table or with another answer")
	}
	if c, ok := x.Named("open"); !ok || c != (Call{2, "open", 2}) {
		t.Errorf("Named after an answer was written over: %v, %v", c, ok)
	}
	if _, ok := x.Numbered(7); ok {
		t.Error("Numbered(7) after an answer was written over")
	}
}

// P1.2: nothing is asked and nothing made till one of the three is asked; neither Counts nor Word is one of them.
func TestCountsAtFirst(t *testing.T) {
	x := New()
	for range 3 {
		Word("open")
		wantCounts(t, "at first", x, 0, 0)
	}
}

// P1.2: each of the three counts, found or not, and makes the table if it is the first.
func TestCountsOfEach(t *testing.T) {
	asks := []struct {
		what string
		ask  func(x *Table)
	}{
		{"Named", func(x *Table) { x.Named("open") }},
		{"Named of none", func(x *Table) { x.Named("") }},
		{"Numbered", func(x *Table) { x.Numbered(2) }},
		{"Numbered of none", func(x *Table) { x.Numbered(5) }},
		{"All", func(x *Table) { x.All() }},
	}
	mixed := New()
	for i, a := range asks {
		x := New()
		for n := range int64(5) {
			a.ask(x)
			wantCounts(t, a.what, x, n+1, 1)
		}
		a.ask(mixed)
		wantCounts(t, "mixed, "+a.what, mixed, int64(i)+1, 1)
	}
}

// P1.2, R8: each table counts for itself.
func TestCountsOfTwo(t *testing.T) {
	x, y := New(), New()
	if x == y {
		t.Fatal("New answered one table twice")
	}
	x.All()
	x.All()
	wantCounts(t, "the one asked", x, 2, 1)
	wantCounts(t, "the other", y, 0, 0)
	y.Named("pid")
	wantCounts(t, "the one asked first", x, 2, 1)
	wantCounts(t, "the other, asked", y, 1, 1)
}

// P1: a table that New didn't make is as good as one that it did.
func TestZeroTable(t *testing.T) {
	var x Table
	wantCounts(t, "at first", &x, 0, 0)
	if c, ok := x.Numbered(Restrict); !ok || c != (Call{446, "restrict", 1}) {
		t.Errorf("Numbered: %v, %v", c, ok)
	}
	wantCounts(t, "asked", &x, 1, 1)
}

// P1.2: many ask at once: all are answered, all are counted, the table is made once.
func TestAtOnce(t *testing.T) {
	const tasks, rounds = 32, 20
	for range 50 {
		x := New()
		start := make(chan struct{})
		var w sync.WaitGroup
		for range tasks {
			w.Go(func() {
				<-start
				askAll(t, x, rounds)
			})
		}
		close(start)
		w.Wait()
		wantCounts(t, "at once", x, tasks*rounds*3, 1)
	}
}

func askAll(t *testing.T, x *Table, rounds int) {
	for range rounds {
		if a, m := x.Counts(); a == 0 && m != 0 || a > 0 && m != 1 {
			t.Errorf("meanwhile: counts %d, %d", a, m)
		}
		if c, ok := x.Named("fork"); !ok || c != (Call{57, "fork", 0}) {
			t.Errorf("at once: Named: %v, %v", c, ok)
		}
		if c, ok := x.Numbered(317); !ok || c != (Call{317, "seccomp", 1}) {
			t.Errorf("at once: Numbered: %v, %v", c, ok)
		}
		if all := x.All(); !sameCalls(all, told) {
			t.Errorf("at once: All: %v", all)
		}
	}
}

// R7: a nil table does nothing, and answers zero values.
func TestNil(t *testing.T) {
	var x *Table
	for _, c := range told {
		if got, ok := x.Named(c.Name); ok || got != (Call{}) {
			t.Errorf("Named(%q): %v, %v", c.Name, got, ok)
		}
		if got, ok := x.Numbered(c.Number); ok || got != (Call{}) {
			t.Errorf("Numbered(%d): %v, %v", c.Number, got, ok)
		}
	}
	if all := x.All(); len(all) != 0 {
		t.Errorf("All: %v", all)
	}
	wantCounts(t, "nil", x, 0, 0)
}

// P1.2: words, from the shortest to the longest.
func TestWord(t *testing.T) {
	for _, s := range []string{
		"a", "z", "m", "a0", "a9", "a-", "a_", "z-_0", "a-b_1", "a--__99", "open", "abcdefghijklmn", "z0123456789-_a",
		strings.Repeat("q", api.MaxName),
	} {
		if !Word(s) {
			t.Errorf("Word(%q): false", s)
		}
	}
	for _, c := range New().All() {
		if !Word(c.Name) {
			t.Errorf("Word(%q): false", c.Name)
		}
	}
}

// P1.2: what is no word.
func TestNoWord(t *testing.T) {
	for _, s := range []string{
		"", "0", "9a", "1a", "-", "-a", "_", "_a", "A", "Ab", "aB", "aZ", " ", " a", "a ", "a b", "a\n", "\x00", "a\x00", "a.b", "a/b", "a,b",
		"abcdefghijklmno", "a0123456789-_ab", strings.Repeat("q", api.MaxName+1), strings.Repeat("q", 1<<20),
		"é", "aé", "ａ", "a１", "a٣", "aſ", "a\xff", "\xff", "a\xc3", "aaaaaaaaaaaaaé", "a\u2010", "a\ufffd",
	} {
		if Word(s) {
			t.Errorf("Word(%.20q): true", s)
		}
	}
}

// P1.2: each byte, as the first and as one behind it.
func TestWordBytes(t *testing.T) {
	const first = "abcdefghijklmnopqrstuvwxyz"
	const others = first + "0123456789-_"
	for b := range 256 {
		c := string([]byte{byte(b)})
		if want := strings.Contains(first, c); Word(c) != want || Word(c+"a") != want {
			t.Errorf("Word(%q) first: want %v", c, want)
		}
		if want := strings.Contains(others, c); Word("a"+c) != want || Word("a"+c+"a") != want {
			t.Errorf("Word(%q) behind: want %v", c, want)
		}
	}
}
