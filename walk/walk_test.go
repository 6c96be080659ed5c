package walk

import (
	"fmt"
	"math"
	"math/rand"
	"slices"
	"strings"
	"testing"

	"pinfold/api"
	"pinfold/inode"
	"pinfold/mount"
)

// at is a place.
func at(id int, n inode.Number) mount.Place { return mount.Place{Mount: id, Inode: n} }

// done wants a call to be OK.
func done(t *testing.T, e api.Errno) {
	t.Helper()
	if e != api.OK {
		t.Fatalf("%d", e)
	}
}

// number is the inode of a path of names alone, without mounts.
func number(t *testing.T, x *Tree, path string) inode.Number {
	t.Helper()
	n := inode.Number(1)
	for _, name := range strings.FieldsFunc(path, func(c rune) bool { return c == '/' }) {
		var e api.Errno
		n, e = x.Inodes.Look(n, name)
		done(t, e)
	}
	return n
}

// made is a new inode by a path of names alone; a link, if it has a text, a directory, if the path ends with /.
func made(t *testing.T, x *Tree, path, text string) inode.Number {
	t.Helper()
	k := inode.File
	if strings.HasSuffix(path, "/") {
		k, path = inode.Dir, path[:len(path)-1]
	}
	if text != "" {
		k = inode.Link
	}
	i := strings.LastIndex(path, "/")
	n, e := x.Inodes.Make(number(t, x, path[:i]), path[i+1:], k, text)
	done(t, e)
	return n
}

// bound is a new mount of a directory at a place.
func bound(t *testing.T, x *Tree, root inode.Number, p mount.Place) int {
	t.Helper()
	id, e := x.Mounts.Bind(root, p)
	done(t, e)
	return id
}

// drop removes what has a name in a directory; what is held stays.
func drop(t *testing.T, x *Tree, in inode.Number, name string) {
	t.Helper()
	n, e := x.Inodes.Look(in, name)
	done(t, e)
	done(t, x.Inodes.Drop(in, name, x.Inodes.Get(n).Kind == inode.Dir))
}

func wantFind(t *testing.T, x *Tree, cwd mount.Place, path string, follow bool, want mount.Place) {
	t.Helper()
	if got, e := x.Find(cwd, path, follow); got != want || e != api.OK {
		t.Errorf("Find(%v, %q, %v): %v, %d, want %v", cwd, path, follow, got, e, want)
	}
}

// wantNotFound wants Find to fail, and Real with it where links are followed.
func wantNotFound(t *testing.T, x *Tree, cwd mount.Place, path string, follow bool, want api.Errno) {
	t.Helper()
	if got, e := x.Find(cwd, path, follow); got != (mount.Place{}) || e != want {
		t.Errorf("Find(%v, %q, %v): %v, %d, want %d", cwd, path, follow, got, e, want)
	}
	if follow {
		wantReal(t, x, cwd, path, "", want)
	}
}

func wantLast(t *testing.T, x *Tree, cwd mount.Place, path string, want mount.Place, name string, err api.Errno) {
	t.Helper()
	if got, s, e := x.Last(cwd, path); got != want || s != name || e != err {
		t.Errorf("Last(%v, %q): %v, %q, %d, want %v, %q, %d", cwd, path, got, s, e, want, name, err)
	}
}

func wantUp(t *testing.T, x *Tree, p, want mount.Place) {
	t.Helper()
	if got := x.Up(p); got != want {
		t.Errorf("Up(%v): %v, want %v", p, got, want)
	}
}

func wantAbove(t *testing.T, x *Tree, p mount.Place, want ...mount.Place) {
	t.Helper()
	if got := x.Above(p); !slices.Equal(got, want) {
		t.Errorf("Above(%v): %v, want %v", p, got, want)
	}
}

func wantSeenAs(t *testing.T, x *Tree, p mount.Place, want string) {
	t.Helper()
	if got, ok := x.Path(p); got != want || !ok {
		t.Errorf("Path(%v): %q, %v, want %q", p, got, ok, want)
	}
}

func wantNoPath(t *testing.T, x *Tree, p mount.Place) {
	t.Helper()
	if got, ok := x.Path(p); got != "" || ok {
		t.Errorf("Path(%v): %q, %v", p, got, ok)
	}
}

func wantReal(t *testing.T, x *Tree, cwd mount.Place, path, want string, err api.Errno) {
	t.Helper()
	if got, e := x.Real(cwd, path); got != want || e != err {
		t.Errorf("Real(%v, %q): %q, %d, want %q, %d", cwd, path, got, e, want, err)
	}
}

// P18.2: the document's example.
func TestExample(t *testing.T) {
	x := New(256)
	a := made(t, x, "/a/", "")
	b := made(t, x, "/b", "")
	wantFind(t, x, mount.Top(), "/a/../b", true, at(0, b))
	wantFind(t, x, at(0, a), "../b", false, at(0, b))
}

// crowd makes as many inodes in a tree as there may be.
func crowd(x *Tree) {
	for i := range 9 {
		in, e := x.Inodes.Make(1, fmt.Sprint(i), inode.Dir, "")
		for j := 0; e == api.OK && j < 32; j++ {
			_, e = x.Inodes.Make(in, fmt.Sprint(j), inode.File, "")
		}
	}
}

// P18.1: a new tree has a root alone, chapter 16's, and the whole tree's mount alone, chapter 17's.
func TestNew(t *testing.T) {
	for _, limit := range []int{math.MinInt, -1, 0, 1, 2, 5, 255, 256, 257, math.MaxInt} {
		x := New(limit)
		if l := x.Mounts.List(); !slices.Equal(l, []mount.Mount{{Root: 1}}) {
			t.Errorf("New(%d): mounts %v", limit, l)
		}
		if l := x.Inodes.Numbers(); !slices.Equal(l, []inode.Number{1}) || x.Inodes.Changes() != 0 {
			t.Errorf("New(%d): inodes %v", limit, l)
		}
		crowd(x)
		if want := min(max(limit, 1), 256); x.Inodes.Len() != want {
			t.Errorf("New(%d): %d inodes, want %d", limit, x.Inodes.Len(), want)
		}
	}
}

// P18.1, R8: trees know nothing of each other.
func TestTreesApart(t *testing.T) {
	x, y := New(9), New(9)
	a := made(t, x, "/a/", "")
	bound(t, x, 1, at(0, a))
	if y.Inodes.Len() != 1 || len(y.Mounts.List()) != 1 {
		t.Error("two trees are one")
	}
}

// P18.1: a directory that is there, by a mount that is there.
func TestDir(t *testing.T) {
	x := New(256)
	d, f, l := made(t, x, "/d/", ""), made(t, x, "/f", ""), made(t, x, "/l", "d")
	gone := made(t, x, "/gone/", "")
	done(t, x.Inodes.Hold(gone, true))
	drop(t, x, 1, "gone")
	bound(t, x, d, at(0, d))
	bound(t, x, d, at(0, 1))
	done(t, x.Mounts.Drop(at(1, d)))
	for id, is := range map[int]bool{0: true, 1: false, 2: true, 3: false, -1: false, math.MinInt: false, math.MaxInt: false, 65536: false} {
		for _, n := range []inode.Number{1, d, gone} {
			if got := x.Dir(at(id, n)); got != is {
				t.Errorf("Dir({%d %d}): %v", id, n, got)
			}
		}
		for _, n := range []inode.Number{0, f, l, gone + 1, 255, 256, 257, math.MaxUint16} {
			if x.Dir(at(id, n)) {
				t.Errorf("Dir({%d %d})", id, n)
			}
		}
	}
	done(t, x.Inodes.Hold(gone, false))
	if x.Dir(at(0, gone)) {
		t.Error("Dir of what is gone")
	}
}

// P18.1: up, in the whole tree, and in what is seen by a mount; of what is no directory Top.
func TestUp(t *testing.T) {
	x := New(256)
	a, b := made(t, x, "/a/", ""), made(t, x, "/a/b/", "")
	f, l := made(t, x, "/a/f", ""), made(t, x, "/a/l", "b")
	m := made(t, x, "/m/", "")
	wantUp(t, x, mount.Top(), mount.Top())
	wantUp(t, x, at(0, a), mount.Top())
	wantUp(t, x, at(0, b), at(0, a))
	bound(t, x, a, at(0, m))
	wantUp(t, x, at(1, b), at(1, a))
	wantUp(t, x, at(1, a), mount.Top()) // from where it stands: not to itself
	wantUp(t, x, at(1, 1), at(1, 1))    // beside the mount's root: never out of it
	wantUp(t, x, at(1, m), at(1, 1))
	for _, p := range []mount.Place{at(0, f), at(0, l), at(1, f), at(0, 0), at(0, 99), at(2, b), at(-1, b), at(math.MaxInt, a), at(0, math.MaxUint16)} {
		wantUp(t, x, p, mount.Top())
	}
}

// P18.1: up from a mount's root is up from where it stands, through all that stand one upon the other.
func TestUpStacked(t *testing.T) {
	x := New(256)
	a := made(t, x, "/a/", "")
	b := made(t, x, "/a/b/", "")
	c, d := made(t, x, "/c/", ""), made(t, x, "/d/", "")
	e := made(t, x, "/d/e/", "")
	bound(t, x, c, at(0, b))
	bound(t, x, d, at(1, c))
	bound(t, x, c, at(2, d))
	for _, p := range []mount.Place{at(0, b), at(1, c), at(2, d), at(3, c)} {
		wantUp(t, x, p, at(0, a))
	}
	wantUp(t, x, at(2, e), at(3, c)) // up in a mount is to what is seen at its root
	wantUp(t, x, at(1, e), at(1, d))
	wantUp(t, x, at(3, d), at(3, 1))
}

// P18.1: above is what is seen there: of a place upon which mounts stand the last one's root.
func TestUpSeen(t *testing.T) {
	x := New(256)
	a := made(t, x, "/a/", "")
	b := made(t, x, "/a/b/", "")
	c, d := made(t, x, "/c/", ""), made(t, x, "/d/", "")
	bound(t, x, c, at(0, a))
	wantUp(t, x, at(0, b), at(1, c))
	bound(t, x, d, at(1, c))
	wantUp(t, x, at(0, b), at(2, d))
	wantUp(t, x, at(0, a), mount.Top())
	bound(t, x, d, mount.Top())
	wantUp(t, x, at(0, a), at(3, d))
	wantUp(t, x, mount.Top(), at(3, d))
	wantUp(t, x, at(3, d), at(3, d)) // the root stands in itself, and that is seen there
	wantUp(t, x, at(2, d), at(3, d))
	wantUp(t, x, at(1, b), at(1, a)) // by mount 1 nothing stands there
}

// P18.1: a directory that was removed, and is held, keeps its Parent's number, whatever that is.
func TestUpRemoved(t *testing.T) {
	x := New(256)
	a := made(t, x, "/a/", "")
	b := made(t, x, "/a/b/", "")
	done(t, x.Inodes.Hold(b, true))
	drop(t, x, a, "b")
	wantUp(t, x, at(0, b), at(0, a))
	drop(t, x, 1, "a")
	wantUp(t, x, at(0, b), at(0, a)) // there is none any more
	if f := made(t, x, "/f", ""); f != a {
		t.Fatalf("%d", f)
	}
	wantUp(t, x, at(0, b), at(0, a))
	drop(t, x, 1, "f")
	made(t, x, "/c/", "")
	if d := made(t, x, "/c/d/", ""); d == a || number(t, x, "/c") != a {
		t.Fatalf("%d", d)
	}
	wantUp(t, x, at(0, b), at(0, a))
	bound(t, x, 1, at(0, a))
	wantUp(t, x, at(0, b), at(1, 1))
}

// P18.1: from the root of what stands where no inode is any more: Top.
func TestUpGone(t *testing.T) {
	x := New(256)
	a := made(t, x, "/a/", "")
	b, c := made(t, x, "/a/b/", ""), made(t, x, "/c/", "")
	bound(t, x, c, at(0, b))
	wantUp(t, x, at(1, c), at(0, a))
	drop(t, x, a, "b")
	wantUp(t, x, at(1, c), mount.Top())
	wantAbove(t, x, at(1, c), at(1, c), at(0, b))
	wantNoPath(t, x, at(1, c))
	wantFind(t, x, at(1, c), "..", true, mount.Top())
	bound(t, x, a, mount.Top())
	wantUp(t, x, at(1, c), mount.Top()) // Top itself, not what is seen at it
}

// P18.2: part by part, from cwd, or from the root; empty parts and dots are none.
func TestFindParts(t *testing.T) {
	x := New(256)
	a, f := made(t, x, "/a/", ""), made(t, x, "/f", "")
	b := made(t, x, "/a/b/", "")
	g := made(t, x, "/a/b/g", "")
	dots := made(t, x, "/a/.../", "")
	for path, want := range map[string]inode.Number{
		"/": 1, "//": 1, "/.": 1, "/./": 1, "/..": 1, "/../..": 1, "/../": 1, "///./..//.": 1,
		"/a": a, "/a/": a, "//a": a, "/a//": a, "/./a/.": a, "/../a": a, "/a/b/..": a, "/a/./b/./../": a, "/a/../a": a,
		"/a/b": b, "/a//b": b, "/a/b/": b, "/a/b/../b": b, "/a/../a/b": b, "/a/b/../../a/b": b,
		"/f": f, "//f": f, "/a/../f": f, "/a/b/../../f": f, "/a/b/g": g, "/f/.": f, "/f/./.": f, "/a/...": dots, "/a/.../": dots, "/a/.../../b": b,
	} {
		for _, follow := range []bool{true, false} {
			wantFind(t, x, mount.Top(), path, follow, at(0, want))
			wantFind(t, x, at(0, b), path, follow, at(0, want)) // of a path from the root cwd doesn't count
			wantFind(t, x, at(0, 77), path, follow, at(0, want))
			wantFind(t, x, at(7, 7), path, follow, at(0, want))
		}
	}
	for path, want := range map[string]inode.Number{
		".": b, "./": b, "././.": b, ".//": b, "..": a, "../": a, "./..": a, "../..": 1, "../../..": 1, "../../../../a": a,
		"g": g, "./g": g, ".//g": g, "../b": b, "../b/g": g, "../../f": f, "../...": dots, "g/.": g,
	} {
		wantFind(t, x, at(0, b), path, true, at(0, want))
		wantFind(t, x, at(0, b), path, false, at(0, want))
	}
}

// P18.2: a way's errors, each where it comes.
func TestFindErrors(t *testing.T) {
	x := New(256)
	d := made(t, x, "/d/", "")
	made(t, x, "/f", "")
	made(t, x, "/d/g", "")
	made(t, x, "/d/"+strings.Repeat("n", 14), "")
	long := strings.Repeat("n", 15)
	for path, want := range map[string]api.Errno{
		"x": 2, "/x": 2, "/x/": 2, "/d/x": 2, "/x/g": 2, "/d/x/g": 2, "/F": 2, "/d/..x": 2, "/#": 2, "/ ": 2, "/d/ä": 2, "/\x00": 2, "/d/g ": 2,
		"/f/": 20, "/f//": 20, "/f/x": 20, "/f/..": 20, "/f/../f": 20, "/d/g/..": 20, "/d/g/x/y": 20, "/f/./": 20, "/f/" + long: 20, "/f/#": 20,
		"/" + long: 36, long: 36, "/d/" + long: 36, "/" + long + "/..": 36, "/d/" + strings.Repeat("n", 110): 36, "/" + long + "/": 36,
		"/x/" + long: 2, "/d/nnnnnnnnnnnnn": 2, "/d/#/" + long: 2, "/" + strings.Repeat("ä", 7): 2, "/" + strings.Repeat("ä", 8): 36, "/" + strings.Repeat(".", 15): 36,
	} {
		for _, follow := range []bool{true, false} {
			wantNotFound(t, x, mount.Top(), path, follow, want)
		}
	}
	wantFind(t, x, at(0, d), strings.Repeat("n", 14), true, at(0, number(t, x, "/d/nnnnnnnnnnnnnn")))
}

// P18.2: no path is empty, or has more than 120 bytes.
func TestFindLength(t *testing.T) {
	x := New(256)
	f := made(t, x, "/f", "")
	for size := range 140 {
		for _, path := range []string{strings.Repeat("/", size), strings.Repeat("./", size)[:size], (strings.Repeat("/", size) + "f")[1:], (strings.Repeat("x", size) + "/")[1:]} {
			got, e := x.Find(mount.Top(), path, true)
			_, _, last := x.Last(mount.Top(), path)
			_, real := x.Real(mount.Top(), path)
			switch {
			case size == 0 && (e != 2 || last != 2 || real != 2), size > 120 && (e != 36 || last != 36 || real != 36):
				t.Errorf("%d bytes %q: %d, %d, %d", size, path, e, last, real)
			case size > 0 && size <= 120 && strings.HasSuffix(path, "f") && (got != at(0, f) || e != 0 || last != 0 || real != 0):
				t.Errorf("%d bytes %q: %v, %d, %d, %d", size, path, got, e, last, real)
			case size > 0 && size <= 120 && strings.Trim(path, "./") == "" && (got != mount.Top() || e != 0 || last != 16 || real != 0):
				t.Errorf("%d bytes %q: %v, %d, %d, %d", size, path, got, e, last, real)
			}
		}
	}
	for _, path := range []string{"", strings.Repeat("/", 121), strings.Repeat("ä", 61), strings.Repeat("a", 1<<20)} {
		want := api.ErrLong
		if path == "" {
			want = api.ErrNone
		}
		for _, cwd := range []mount.Place{mount.Top(), at(0, f), at(0, 99), at(9, 1)} {
			wantNotFound(t, x, cwd, path, true, want)
			wantLast(t, x, cwd, path, mount.Place{}, "", want)
		}
	}
	wantNotFound(t, x, mount.Top(), strings.Repeat("ä", 60), true, 36)
}

// P18.2: cwd is taken as it is; a way of no parts ends there, if an inode is there.
func TestFindCwd(t *testing.T) {
	x := New(256)
	d, f, l := made(t, x, "/d/", ""), made(t, x, "/f", ""), made(t, x, "/l", "d")
	made(t, x, "/d/g", "")
	for _, n := range []inode.Number{1, d, f, l} {
		wantFind(t, x, at(0, n), ".", true, at(0, n))
		wantFind(t, x, at(0, n), "./.", false, at(0, n))
	}
	wantNotFound(t, x, at(0, f), "./", true, 20)
	wantNotFound(t, x, at(0, l), "./", true, 20)
	wantNotFound(t, x, at(3, d), "./", false, 20)
	wantNotFound(t, x, at(0, 9), ".", false, 2)
	wantNotFound(t, x, at(0, 9), "./", true, 2)
	for _, cwd := range []mount.Place{at(0, f), at(0, l), at(0, 0), at(0, 9), at(3, d), at(-1, 1)} {
		for _, path := range []string{"g", "..", "x", "../f", "./g/", strings.Repeat("n", 15)} {
			wantNotFound(t, x, cwd, path, true, 20)
			wantNotFound(t, x, cwd, path, false, 20)
		}
	}
	bound(t, x, d, at(0, 1))
	wantFind(t, x, at(0, 1), ".", true, at(0, 1)) // not what is seen at it
	wantFind(t, x, at(0, 1), "f", true, at(0, f))
	wantNotFound(t, x, at(0, 1), "/f", true, 2)
}

// P18.2: what is seen at a directory; a file is by the mount of its directory.
func TestFindMounts(t *testing.T) {
	x := New(256)
	a, m, n := made(t, x, "/a/", ""), made(t, x, "/m/", ""), made(t, x, "/n/", "")
	b, f, g := made(t, x, "/a/b/", ""), made(t, x, "/a/f", ""), made(t, x, "/m/g", "")
	l := made(t, x, "/a/l", "b/../f")
	bound(t, x, a, at(0, m))
	for path, want := range map[string]mount.Place{
		"/m": at(1, a), "/m/": at(1, a), "/m/b": at(1, b), "/m/f": at(1, f), "/a": at(0, a), "/a/f": at(0, f),
		"/m/b/..": at(1, a), "/m/..": at(0, 1), "/m/b/../..": at(0, 1), "/m/../a/b": at(0, b), "/m/l": at(1, f), "/a/l": at(0, f),
	} {
		wantFind(t, x, mount.Top(), path, true, want)
	}
	wantFind(t, x, mount.Top(), "/m/l", false, at(1, l))
	wantNotFound(t, x, mount.Top(), "/m/g", true, 2)
	wantFind(t, x, at(0, m), "g", true, at(0, g)) // who stands below it is there still
	bound(t, x, n, at(1, a))
	bound(t, x, m, at(1, b))
	wantFind(t, x, mount.Top(), "/m", true, at(2, n))
	wantNotFound(t, x, mount.Top(), "/m/b", true, 2)
	wantFind(t, x, at(1, a), "b", true, at(3, m))
	wantFind(t, x, at(1, a), "b/g", true, at(3, g))
	wantFind(t, x, at(3, m), "..", true, at(2, n))
	wantFind(t, x, at(2, n), "..", true, at(0, 1))
	wantFind(t, x, at(0, a), "b", true, at(0, b))
}

// P18.2: a path that begins with / goes from what is seen at Top; so does a link's text.
func TestFindTopMount(t *testing.T) {
	x := New(256)
	a := made(t, x, "/a/", "")
	made(t, x, "/a/l", "/f")
	made(t, x, "/a/k", "../f")
	made(t, x, "/a/r", "/")
	f, g := made(t, x, "/f", ""), made(t, x, "/a/f", "")
	bound(t, x, a, mount.Top())
	wantFind(t, x, at(0, a), "/", true, at(1, a))
	wantFind(t, x, at(0, a), "/f", true, at(1, g))
	wantFind(t, x, at(0, a), "l", true, at(1, g))
	wantFind(t, x, at(0, a), "k", true, at(1, g)) // what is above is seen, too
	wantFind(t, x, at(0, a), "r", true, at(1, a))
	wantFind(t, x, at(0, a), "r/f", true, at(1, g))
	wantFind(t, x, at(0, 1), "f", true, at(0, f))
	wantFind(t, x, at(0, 1), "./../f", true, at(1, g))
	wantFind(t, x, at(1, a), "../..", true, at(1, a))
	wantReal(t, x, at(0, a), "l", "/f", 0)
	wantReal(t, x, at(0, a), "r", "/", 0)
}

// P18.2: what is seen may be no directory any more, or nothing.
func TestFindMountGone(t *testing.T) {
	x := New(256)
	d, m := made(t, x, "/d/", ""), made(t, x, "/m/", "")
	bound(t, x, d, at(0, m))
	drop(t, x, 1, "d")
	wantNotFound(t, x, mount.Top(), "/m", true, 2)
	wantNotFound(t, x, mount.Top(), "/m/", true, 2)
	for _, path := range []string{"/m/x", "/m/..", "/m/" + strings.Repeat("n", 15)} {
		wantNotFound(t, x, mount.Top(), path, true, 20)
	}
	wantLast(t, x, mount.Top(), "/m", mount.Top(), "m", 0)
	wantLast(t, x, mount.Top(), "/m/x", mount.Place{}, "", 20)
	if f := made(t, x, "/f", ""); f != d {
		t.Fatalf("%d", f)
	}
	wantFind(t, x, mount.Top(), "/m", true, at(1, d))
	wantNotFound(t, x, mount.Top(), "/m/", true, 20)
	wantNotFound(t, x, mount.Top(), "/m/x", true, 20)
}

// P18.2: from a directory that was removed, and is held, up goes to what has its Parent's number by now, if that is a directory.
func TestFindRemoved(t *testing.T) {
	x := New(256)
	a := made(t, x, "/a/", "")
	b := made(t, x, "/a/b/", "")
	f := made(t, x, "/f", "")
	done(t, x.Inodes.Hold(b, true))
	drop(t, x, a, "b")
	wantFind(t, x, at(0, b), ".", true, at(0, b))
	wantFind(t, x, at(0, b), "..", true, at(0, a))
	wantFind(t, x, at(0, b), "../..", true, mount.Top())
	wantFind(t, x, at(0, b), "../../f", true, at(0, f))
	wantNotFound(t, x, at(0, b), "x", true, 2)
	wantNotFound(t, x, at(0, b), "../b", true, 2)
	drop(t, x, 1, "a")
	for path, want := range map[string]api.Errno{"..": 2, "../": 2, "../.": 2, "../x": 20, "../..": 20, "../" + strings.Repeat("n", 15): 20} {
		wantNotFound(t, x, at(0, b), path, true, want)
		wantNotFound(t, x, at(0, b), path, false, want)
	}
	for _, text := range []string{"", "f", "/"} {
		if n := made(t, x, "/g", text); n != a {
			t.Fatalf("%d", n)
		}
		for _, path := range []string{"..", "../", "../x", "../..", "../" + strings.Repeat("n", 15)} {
			wantNotFound(t, x, at(0, b), path, true, 2)
			wantNotFound(t, x, at(0, b), path, false, 2)
		}
		wantLast(t, x, at(0, b), "../x", mount.Place{}, "", 2)
		wantLast(t, x, at(0, b), "x", at(0, b), "x", 0)
		drop(t, x, 1, "g")
	}
	wantLast(t, x, at(0, b), "../x", mount.Place{}, "", 20)
	made(t, x, "/c/", "")
	g := made(t, x, "/c/g", "")
	wantFind(t, x, at(0, b), "..", true, at(0, a))
	wantFind(t, x, at(0, b), "../g", true, at(0, g))
}

// P18.2: a link is followed; at the end only if that is wanted, or the path ends with /.
func TestFindLinks(t *testing.T) {
	x := New(256)
	d, f := made(t, x, "/d/", ""), made(t, x, "/f", "")
	e, g := made(t, x, "/d/e/", ""), made(t, x, "/d/e/g", "")
	links := map[string]inode.Number{}
	for path, text := range map[string]string{
		"/here": "f", "/dir": "d", "/slash": "d/", "/dot": ".", "/root": "/", "/way": "d/e/../e", "/far": "/d/./e//", "/none": "x", "/in": "d/x",
		"/d/up": "../f", "/d/e/top": "/f", "/d/e/upper": "..", "/d/e/back": "../../dir", "/d/e/self": "g", "/two": "dir/e/back",
		"/file": "f/", "/long": strings.Repeat("n", 15), "/bad": "f/x", "/odd": "#", "/roots": "//", "/most": strings.Repeat("/", 119) + "f",
	} {
		links[path] = made(t, x, path, text)
	}
	for path, n := range links {
		wantFind(t, x, mount.Top(), path, false, at(0, n))
		wantFind(t, x, mount.Top(), path+"/.", false, at(0, n)) // a dot is no part: the link is the last one
		wantFind(t, x, mount.Top(), "//."+path, false, at(0, n))
	}
	for path, want := range map[string]inode.Number{
		"/here": f, "/dir": d, "/slash": d, "/dot": 1, "/root": 1, "/way": e, "/far": e, "/d/up": f, "/d/e/top": f, "/d/e/upper": d,
		"/d/e/back": d, "/d/e/self": g, "/two": d, "/file": f, "/roots": 1, "/most": f,
	} {
		wantFind(t, x, mount.Top(), path, true, at(0, want))
		if want == f || want == g {
			wantNotFound(t, x, mount.Top(), path+"/", true, 20)
			wantNotFound(t, x, mount.Top(), path+"/", false, 20)
			wantNotFound(t, x, mount.Top(), path+"/x", false, 20)
			wantNotFound(t, x, mount.Top(), path+"/..", false, 20)
			continue
		}
		wantFind(t, x, mount.Top(), path+"/", true, at(0, want))
		wantFind(t, x, mount.Top(), path+"/", false, at(0, want))
		wantFind(t, x, mount.Top(), path+"/./", false, at(0, want))
		wantFind(t, x, mount.Top(), path+"/..", false, x.Up(at(0, want)))
		wantNotFound(t, x, mount.Top(), path+"/x", false, 2)
	}
	for path, want := range map[string]api.Errno{"/none": 2, "/in": 2, "/long": 36, "/bad": 20, "/odd": 2, "/none/x": 2, "/long/x": 36, "/bad/..": 20, "/dir/none": 2} {
		wantNotFound(t, x, mount.Top(), path, true, want)
		wantNotFound(t, x, mount.Top(), path+"/", false, want)
	}
	for path, want := range map[string]inode.Number{"/dir/e/g": g, "/dir/up": f, "/slash/e": e, "/root/d": d, "/way/g": g, "/two/e/self": g, "/d/e/back/e/upper/up": f, "/dot/dot/root/dir/e": e} {
		wantFind(t, x, mount.Top(), path, true, at(0, want))
	}
	wantFind(t, x, mount.Top(), "/dir/up", false, at(0, links["/d/up"])) // the one between is followed, the last one isn't
	wantFind(t, x, at(0, e), "top", true, at(0, f))
	wantFind(t, x, at(0, e), "back/e/self", true, at(0, g))
}

// chained makes links l1, l2 and so on in the root, each of the one ahead of it, l1 of a text.
func chained(t *testing.T, x *Tree, many int, text string) {
	t.Helper()
	for i := 1; i <= many; i++ {
		made(t, x, fmt.Sprint("/l", i), text)
		text = fmt.Sprint("l", i)
	}
}

// P18.2: eight links may be on a way, wherever they stand; the ninth one isn't followed.
func TestFindLoop(t *testing.T) {
	x := New(256)
	d, f := made(t, x, "/d/", ""), made(t, x, "/d/f", "")
	made(t, x, "/d/o", ".")
	chained(t, x, 10, "d")
	for i := 1; i <= 10; i++ {
		path := fmt.Sprint("/l", i)
		n := number(t, x, path)
		wantFind(t, x, mount.Top(), path, false, at(0, n))
		if i > 8 {
			wantNotFound(t, x, mount.Top(), path, true, 40)
			wantNotFound(t, x, mount.Top(), path+"/", false, 40)
			wantNotFound(t, x, mount.Top(), path+"/f", false, 40)
			wantLast(t, x, mount.Top(), path+"/x", mount.Place{}, "", 40)
			wantLast(t, x, mount.Top(), path, mount.Top(), path[1:], 0)
			continue
		}
		wantFind(t, x, mount.Top(), path, true, at(0, d))
		wantFind(t, x, mount.Top(), path+"/", false, at(0, d))
		wantFind(t, x, mount.Top(), path+"/f", false, at(0, f))
		wantLast(t, x, mount.Top(), path+"/x", at(0, d), "x", 0)
		wantReal(t, x, mount.Top(), path+"/f", "/d/f", 0)
	}
	for many := range 12 { // one behind the other
		path := "/d" + strings.Repeat("/o", many)
		o := number(t, x, "/d/o")
		if many > 8 {
			wantNotFound(t, x, mount.Top(), path, true, 40)
			wantNotFound(t, x, mount.Top(), path+"/f", true, 40)
			wantLast(t, x, mount.Top(), path+"/x", mount.Place{}, "", 40)
		} else {
			wantFind(t, x, mount.Top(), path, true, at(0, d))
			wantFind(t, x, mount.Top(), path+"/f", true, at(0, f))
			wantLast(t, x, mount.Top(), path+"/x", at(0, d), "x", 0)
		}
		switch {
		case many == 9: // the ninth one is the last part
			wantFind(t, x, mount.Top(), path, false, at(0, o))
			wantNotFound(t, x, mount.Top(), path+"/", false, 40)
		case many > 9:
			wantNotFound(t, x, mount.Top(), path, false, 40)
		case many > 0:
			wantFind(t, x, mount.Top(), path, false, at(0, o))
		}
	}
	wantFind(t, x, mount.Top(), "/l4/../l4", true, at(0, d)) // four and four
	wantNotFound(t, x, mount.Top(), "/l4/../l5", true, 40)
	wantFind(t, x, mount.Top(), "/l8/../l1", false, at(0, number(t, x, "/l1")))
}

// P18.2: links in circles end; what is wrong of the ninth one's text isn't looked at.
func TestFindCircles(t *testing.T) {
	x := New(256)
	made(t, x, "/self", "self")
	made(t, x, "/deep", "deep/deep/../deep/x")
	made(t, x, "/ping", "pong")
	made(t, x, "/pong", "/ping")
	for _, path := range []string{"/self", "/deep", "/ping", "/pong", "/self/x", "/self/..", "/deep/" + strings.Repeat("n", 15)} {
		wantNotFound(t, x, mount.Top(), path, true, 40)
		wantNotFound(t, x, mount.Top(), path+"/", false, 40)
		wantLast(t, x, mount.Top(), path+"/x", mount.Place{}, "", 40)
	}
	chained(t, x, 9, "x/"+strings.Repeat("n", 15))
	wantNotFound(t, x, mount.Top(), "/l8", true, 2)
	wantNotFound(t, x, mount.Top(), "/l9", true, 40)
}

// P18.2: the directory in which the last part stands, and that part, whether it is there or not.
func TestLast(t *testing.T) {
	x := New(256)
	d, m := made(t, x, "/d/", ""), made(t, x, "/m/", "")
	e := made(t, x, "/d/e/", "")
	made(t, x, "/f", "")
	made(t, x, "/l", "d/e/../e")
	made(t, x, "/k", "f")
	made(t, x, "/d/r", "/")
	bound(t, x, d, at(0, m))
	name := strings.Repeat("n", 14)
	for path, want := range map[string]struct {
		in   mount.Place
		name string
	}{
		"/d": {mount.Top(), "d"}, "/x": {mount.Top(), "x"}, "x": {mount.Top(), "x"}, "//d//": {mount.Top(), "d"}, "/d/.": {mount.Top(), "d"}, "./x/./": {mount.Top(), "x"},
		"/d/e": {at(0, d), "e"}, "/d/x": {at(0, d), "x"}, "/d/x/": {at(0, d), "x"}, "/d/../f": {mount.Top(), "f"}, "/f/": {mount.Top(), "f"}, "/f/.": {mount.Top(), "f"},
		"/l": {mount.Top(), "l"}, "/l/": {mount.Top(), "l"}, "/l/x": {at(0, e), "x"}, "/l/../e": {at(0, d), "e"}, "/l/../..//y": {mount.Top(), "y"}, "/d/r/m": {mount.Top(), "m"},
		"/m": {mount.Top(), "m"}, "/m/e": {at(1, d), "e"}, "/m/e/x": {at(1, e), "x"}, "/m/r/d/e/x": {at(0, e), "x"},
		"/" + name: {mount.Top(), name}, "/d/" + name + "/": {at(0, d), name}, "/...": {mount.Top(), "..."}, "/..x": {mount.Top(), "..x"},
	} {
		wantLast(t, x, mount.Top(), path, want.in, want.name, 0)
		if strings.HasPrefix(path, "/") {
			wantLast(t, x, at(0, e), path, want.in, want.name, 0)
			wantLast(t, x, at(7, 7), path, want.in, want.name, 0)
		}
	}
	wantLast(t, x, at(1, e), "x", at(1, e), "x", 0)
	wantLast(t, x, at(1, e), "../../m", mount.Top(), "m", 0)
	wantLast(t, x, at(0, m), "x", at(0, m), "x", 0) // cwd is taken as it is
}

// P18.2, R2, R3: each error of Last, and which comes first.
func TestLastErrors(t *testing.T) {
	x := New(256)
	made(t, x, "/d/", "")
	f := made(t, x, "/f", "")
	made(t, x, "/d/l", "../f")
	made(t, x, "/d/none", "x")
	made(t, x, "/d/many", strings.Repeat("n", 15))
	long := strings.Repeat("n", 15)
	for path, want := range map[string]api.Errno{
		"": 2, "/": 16, ".": 16, "..": 16, "//./": 16, "/..": 16, "/../": 16, "/d/..": 16, "/d/../.": 16, "/x/..": 16, "/f/..": 16, long + "/..": 16,
		"/x/y": 2, "/d/x/y": 2, "/x/" + long: 2, "/x/#": 2, "/d/none/y": 2, "/f/x/y": 20, "/" + long + "/x": 36, "/d/many/y": 36, "/f/../x": 20,
		"/f/x": 20, "/f/" + long: 20, "/f/#": 20, "/d/l/x": 20, "/d/l/" + long: 20, "/d/l/#": 20,
		"/" + long: 36, "/d/" + long: 36, "/d/" + long + "/": 36, "/" + strings.Repeat("#", 15): 36, "/" + strings.Repeat(".", 15): 36,
		"/#": 22, "/d/ ": 22, "/a b": 22, "/d/ä": 22, "/\x7f": 22, "\x00": 22, "/" + strings.Repeat("#", 14): 22, "/d/a#/": 22, "/" + strings.Repeat("ä", 7): 22, "/" + strings.Repeat("ä", 8): 36,
	} {
		wantLast(t, x, mount.Top(), path, mount.Place{}, "", want)
	}
	for _, cwd := range []mount.Place{at(0, f), at(0, 99), at(1, 1), at(0, 0)} {
		for path, want := range map[string]api.Errno{"": 2, ".": 16, "..": 16, "x": 20, "#": 20, long: 20, "x/y": 20, "../y": 20, strings.Repeat("x", 121): 36} {
			wantLast(t, x, cwd, path, mount.Place{}, "", want)
		}
	}
}

// P18.2: the parts of links on a way are not taken for the last one.
func TestLastBehindLinks(t *testing.T) {
	x := New(256)
	made(t, x, "/a/", "")
	made(t, x, "/a/b/", "")
	c := made(t, x, "/a/b/c/", "")
	for i, text := range []string{"a", "a/b", "a/b/c", "a/b/c/../c", "/a/b/c", "a/./b//c/", ".", "/"} {
		made(t, x, fmt.Sprint("/l", i), text)
		in, e := x.Find(mount.Top(), text, true)
		done(t, e)
		for _, ahead := range []string{"/", "/./", "/a/../", "/a/b/../../", "//.//", "/l7/", "/l6/l7/../"} {
			if i < 7 && strings.Contains(ahead, "l") {
				continue
			}
			wantLast(t, x, mount.Top(), fmt.Sprintf("%sl%d/last", ahead, i), in, "last", 0)
			wantLast(t, x, mount.Top(), fmt.Sprintf("%sl%d/./last/.", ahead, i), in, "last", 0)
		}
	}
	wantLast(t, x, mount.Top(), "/l0/b/../../l1/c/../../../l3/last", at(0, c), "last", 0)
}

// P18.3: from a place up: what stands over it, a mount's root over where that stands; of what is no directory none.
func TestAbove(t *testing.T) {
	x := New(256)
	a, m, n := made(t, x, "/a/", ""), made(t, x, "/m/", ""), made(t, x, "/n/", "")
	b, f, l := made(t, x, "/a/b/", ""), made(t, x, "/a/f", ""), made(t, x, "/a/l", "b")
	c := made(t, x, "/a/b/c/", "")
	wantAbove(t, x, mount.Top(), mount.Top())
	wantAbove(t, x, at(0, a), at(0, a), mount.Top())
	wantAbove(t, x, at(0, c), at(0, c), at(0, b), at(0, a), mount.Top())
	bound(t, x, b, at(0, m))
	bound(t, x, n, at(1, c))
	bound(t, x, a, at(2, n))
	wantAbove(t, x, at(1, b), at(1, b), at(0, m), mount.Top())
	wantAbove(t, x, at(1, c), at(1, c), at(1, b), at(0, m), mount.Top())
	wantAbove(t, x, at(2, n), at(2, n), at(1, c), at(1, b), at(0, m), mount.Top())
	wantAbove(t, x, at(3, c), at(3, c), at(3, b), at(3, a), at(2, n), at(1, c), at(1, b), at(0, m), mount.Top())
	wantAbove(t, x, at(0, c), at(0, c), at(0, b), at(0, a), mount.Top()) // what stands elsewhere doesn't count
	wantAbove(t, x, at(1, a), at(1, a), at(1, 1))                        // beside the mount's root
	wantAbove(t, x, at(2, 1), at(2, 1))
	for _, p := range []mount.Place{at(0, f), at(0, l), at(3, f), at(0, 0), at(0, 99), at(4, b), at(-1, 1), at(math.MinInt, 1), at(math.MaxInt, a)} {
		wantAbove(t, x, p)
	}
	bound(t, x, 1, mount.Top())
	bound(t, x, m, at(0, a))
	wantAbove(t, x, mount.Top(), mount.Top()) // not what is seen at it
	wantAbove(t, x, at(4, 1), at(4, 1), mount.Top())
	wantAbove(t, x, at(4, m), at(4, m), at(4, 1), mount.Top())
	wantAbove(t, x, at(0, b), at(0, b), at(0, a), mount.Top())
	wantAbove(t, x, at(5, m), at(5, m), at(0, a), mount.Top())
}

// P18.3: a directory that was removed, and is held, stands where its Parent's number says, up to one that there isn't.
func TestAboveRemoved(t *testing.T) {
	x := New(256)
	a := made(t, x, "/a/", "")
	b := made(t, x, "/a/b/", "")
	c := made(t, x, "/a/b/c/", "")
	done(t, x.Inodes.Hold(c, true))
	drop(t, x, b, "c")
	wantAbove(t, x, at(0, c), at(0, c), at(0, b), at(0, a), mount.Top())
	wantNoPath(t, x, at(0, c))
	done(t, x.Inodes.Hold(b, true))
	drop(t, x, a, "b")
	wantAbove(t, x, at(0, c), at(0, c), at(0, b), at(0, a), mount.Top())
	wantNoPath(t, x, at(0, b))
	wantReal(t, x, at(0, b), ".", "", 2)
	wantReal(t, x, at(0, c), "../..", "/a", 0)
	drop(t, x, 1, "a")
	wantAbove(t, x, at(0, c), at(0, c), at(0, b))
	wantAbove(t, x, at(0, b), at(0, b))
	wantNoPath(t, x, at(0, c))
	done(t, x.Inodes.Hold(b, false))
	wantAbove(t, x, at(0, c), at(0, c))
	wantNoPath(t, x, at(0, c))
	made(t, x, "/d/", "") // a's number
	made(t, x, "/d/e/", "")
	if number(t, x, "/d/e") != b {
		t.Fatal("another number")
	}
	wantAbove(t, x, at(0, c), at(0, c), at(0, b), at(0, a), mount.Top())
	wantNoPath(t, x, at(0, c))
	wantSeenAs(t, x, at(0, b), "/d/e")
}

// P18.3: the names from Top on; a mount's root has that of where it stands.
func TestPath(t *testing.T) {
	x := New(256)
	a, m, n := made(t, x, "/a/", ""), made(t, x, "/m/", ""), made(t, x, "/n/", "")
	b, f, l := made(t, x, "/a/b/", ""), made(t, x, "/a/f", ""), made(t, x, "/a/l", "b")
	c := made(t, x, "/a/b/c/", "")
	wantSeenAs(t, x, mount.Top(), "/")
	wantSeenAs(t, x, at(0, a), "/a")
	wantSeenAs(t, x, at(0, b), "/a/b")
	wantSeenAs(t, x, at(0, c), "/a/b/c")
	bound(t, x, b, at(0, m))
	bound(t, x, n, at(1, c))
	bound(t, x, a, at(2, n))
	wantSeenAs(t, x, at(1, b), "/m")
	wantSeenAs(t, x, at(1, c), "/m/c")
	wantSeenAs(t, x, at(2, n), "/m/c")
	wantSeenAs(t, x, at(3, a), "/m/c")
	wantSeenAs(t, x, at(3, c), "/m/c/b/c")
	wantSeenAs(t, x, at(0, c), "/a/b/c")
	for _, p := range []mount.Place{at(1, a), at(1, 1), at(2, 1), at(2, a), at(0, f), at(0, l), at(1, f), at(0, 0), at(0, 99), at(4, 1), at(-1, b), at(math.MaxInt, 1)} {
		wantNoPath(t, x, p)
	}
	bound(t, x, b, mount.Top())
	wantSeenAs(t, x, mount.Top(), "/")
	wantSeenAs(t, x, at(4, b), "/")
	wantSeenAs(t, x, at(4, c), "/c")
	done(t, x.Inodes.Move(1, "a", n, "z"))
	wantSeenAs(t, x, at(0, c), "/n/z/b/c")
}

// P18.3: where a mount stands at a place without a name, its root isn't seen.
func TestPathNameless(t *testing.T) {
	x := New(256)
	a, d := made(t, x, "/a/", ""), made(t, x, "/d/", "")
	b, e := made(t, x, "/a/b/", ""), made(t, x, "/d/e/", "")
	bound(t, x, d, at(0, b))
	wantSeenAs(t, x, at(1, e), "/a/b/e")
	done(t, x.Inodes.Hold(b, true))
	drop(t, x, a, "b")
	wantAbove(t, x, at(1, e), at(1, e), at(1, d), at(0, b), at(0, a), mount.Top())
	wantNoPath(t, x, at(1, e))
	wantNoPath(t, x, at(1, d))
	wantReal(t, x, at(1, d), "e", "", 2)
	done(t, x.Inodes.Hold(d, true))
	bound(t, x, d, at(0, a))
	drop(t, x, d, "e")
	drop(t, x, 1, "d")
	wantSeenAs(t, x, at(2, d), "/a") // a mount's root needs no name
}

// P18.3: the path of the deepest directory there may be.
func TestPathDeep(t *testing.T) {
	x := New(256)
	path, want := "", ""
	for i := range 16 {
		path += "/" + strings.Repeat(string(rune('a'+i)), 14)
		made(t, x, path+"/", "")
	}
	n := number(t, x, path)
	wantSeenAs(t, x, at(0, n), path)
	if l := x.Above(at(0, n)); len(l) != 17 {
		t.Errorf("%d above", len(l))
	}
	for i := range 15 {
		bound(t, x, 1, at(i, n))
		want += path
		wantSeenAs(t, x, at(i+1, 1), want)
		wantSeenAs(t, x, at(i+1, n), want+path)
	}
	if l := x.Above(at(15, n)); len(l) != 16*17 {
		t.Errorf("%d above", len(l))
	}
	p := at(15, n)
	for range 16*16 - 1 {
		q, e := x.Find(p, "..", true)
		done(t, e)
		p = q
	}
	if q := x.Up(p); q != mount.Top() || p == q {
		t.Errorf("%v, above it %v", p, q)
	}
}

// P18.3: the path without links and dots: of a directory its own, of another thing its directory's and its name.
func TestReal(t *testing.T) {
	x := New(256)
	a, m := made(t, x, "/a/", ""), made(t, x, "/m/", "")
	b := made(t, x, "/a/b/", "")
	f := made(t, x, "/f", "")
	g := made(t, x, "/a/b/g", "")
	done(t, x.Inodes.Add(a, "h", g))
	made(t, x, "/a/l", "../f")
	made(t, x, "/a/k", "b/g")
	made(t, x, "/a/r", "/")
	made(t, x, "/dir", "a/b")
	made(t, x, "/twice", "a/k")
	bound(t, x, a, at(0, m))
	for path, want := range map[string]string{
		"/": "/", "//.": "/", "/..": "/", "/a": "/a", "/a/": "/a", "/a/../a/./b": "/a/b", "/dir": "/a/b", "/dir/": "/a/b", "/dir/..": "/a", "/a/r": "/", "/a/r/a": "/a",
		"/f": "/f", "//f": "/f", "/a/../f": "/f", "/f/.": "/f", "/a/l": "/f", "/a/k": "/a/b/g", "/twice": "/a/b/g", "/a/b/g": "/a/b/g", "/a/h": "/a/h", "/dir/g": "/a/b/g", "/dir/../h": "/a/h",
		"/m": "/m", "/m/b": "/m/b", "/m/b/..": "/m", "/m/h": "/m/h", "/m/k": "/m/b/g", "/m/l": "/f", "/m/..": "/", "/m/r/m/b/g": "/m/b/g", "/m/../a/h": "/a/h",
	} {
		wantReal(t, x, mount.Top(), path, want, 0)
		wantReal(t, x, at(0, b), path, want, 0)
	}
	for path, want := range map[string]string{".": "/m/b", "..": "/m", "g": "/m/b/g", "../h": "/m/h", "../l": "/f", "../..": "/", "../../f": "/f"} {
		wantReal(t, x, at(1, b), path, want, 0)
	}
	for path, want := range map[string]api.Errno{"": 2, "/x": 2, "/a/x": 2, "/f/": 20, "/a/l/": 20, "/f/x": 20, "/a/l/x": 20, strings.Repeat("n", 15): 36, strings.Repeat("/", 121): 36} {
		wantReal(t, x, mount.Top(), path, "", want)
	}
	wantReal(t, x, at(0, f), ".", "", 2) // it was found in no directory
	for _, path := range []string{".", "f", "m", "..", "./f", "../m/"} {
		wantReal(t, x, at(1, 1), path, "", 2) // what isn't beneath the mount's root isn't seen
	}
	wantReal(t, x, at(1, 1), "a", "/m", 0) // the mount's root, by the mount
	wantReal(t, x, at(1, 1), "dir", "/m/b", 0)
	wantReal(t, x, at(1, 1), "a/h", "/m/h", 0)
	wantReal(t, x, at(1, 1), "a/../f", "/f", 0)
	wantReal(t, x, at(1, 1), "a/l", "/f", 0)
	wantReal(t, x, at(1, 1), "/f", "/f", 0)
	wantReal(t, x, at(9, 1), ".", "", 2)
}

// P18.3: where no mounts are, a path that Real says finds the same without links and dots.
func TestRealFinds(t *testing.T) {
	for seed := range int64(60) {
		c := &chance{Tree: New(24), r: rand.New(rand.NewSource(seed))}
		for range 60 {
			c.change()
		}
		for _, m := range slices.Backward(c.Mounts.List()[1:]) {
			done(t, c.Mounts.Drop(at(m.Id, m.Root)))
		}
		for range 200 {
			cwd, path := c.place(), c.path()
			got, e := c.Real(cwd, path)
			if e != api.OK {
				continue
			}
			for _, part := range strings.Split(got[1:], "/") {
				if got != "/" && !inode.Name(part) {
					t.Fatalf("Real(%v, %q): %q", cwd, path, got)
				}
			}
			p, e := c.Find(cwd, path, true)
			q, f := c.Find(mount.Top(), got, false)
			if got[0] != '/' || p != q || e != api.OK || f != api.OK {
				t.Fatalf("%q: %v, %d; by %q: %v, %d", path, p, e, got, q, f)
			}
		}
	}
}

// swept is a tree in which something of all kinds stands, and the places from which ways go.
func swept(t *testing.T) (*Tree, []mount.Place) {
	t.Helper()
	x := New(256)
	d, f, m := made(t, x, "/d/", ""), made(t, x, "/f", ""), made(t, x, "/m/", "")
	e := made(t, x, "/d/d/", "")
	g := made(t, x, "/d/m/", "")
	made(t, x, "/d/f", "")
	made(t, x, "/l", "d/d")
	made(t, x, "/d/l", "../l/..")
	made(t, x, "/d/d/l", "/m/l")
	made(t, x, "/d/d/f", "")
	made(t, x, "/d/d/x", "x")
	bound(t, x, d, at(0, m))
	bound(t, x, 1, at(1, g))
	made(t, x, "/gone/", "")
	gone := made(t, x, "/gone/gone/", "")
	done(t, x.Inodes.Hold(gone, true))
	drop(t, x, number(t, x, "/gone"), "gone")
	drop(t, x, 1, "gone")
	return x, []mount.Place{mount.Top(), at(0, e), at(1, g), at(2, 1), at(2, e), at(0, f), at(0, gone), at(0, 99)}
}

// P18.2, P18.3, R2, R3: all paths of up to four of some parts, from all kinds of places, held against the same told once more.
func TestSweep(t *testing.T) {
	x, from := swept(t)
	was := state(x)
	m := toldOf(x)
	seen := errs{}
	parts := []string{"", ".", "..", "d", "f", "l", "m", "x", "#", strings.Repeat("d", 15)}
	var sweep func(path string, many int)
	sweep = func(path string, many int) {
		for _, cwd := range from {
			wantPath(t, x, m, cwd, path, seen, "sweep")
		}
		if many == 0 {
			return
		}
		for _, part := range parts {
			sweep(path+"/"+part, many-1)
			if path == "" {
				sweep(part, many-1)
			}
		}
	}
	sweep("", 4)
	wantPlaces(t, x, "sweep")
	if state(x) != was {
		t.Error("what was asked changed the tree")
	}
	wantErrs(t, seen)
}

// wantErrs wants each call to have answered each of its errors, and no other one.
func wantErrs(t *testing.T, seen errs) {
	t.Helper()
	for call, want := range map[string][]int{
		"Find": {0, 2, 20, 36, 40}, "Real": {0, 2, 20, 36, 40}, "Last": {0, 2, 16, 20, 22, 36, 40},
	} {
		for _, e := range want {
			if seen[call][e] == 0 {
				t.Errorf("%s: never %d: %v", call, e, seen[call])
			}
		}
		if len(seen[call]) != len(want) {
			t.Errorf("%s: %v, want %v", call, seen[call], want)
		}
	}
}

// P18.1, P18.2, P18.3, P1, R4, R8: trees and paths by chance, held against the same told once more.
func TestByChance(t *testing.T) {
	seen := errs{}
	for seed := range int64(150) {
		c := &chance{Tree: New(6 + int(seed)%30), r: rand.New(rand.NewSource(seed))}
		for round := range 12 {
			for range 10 {
				c.change()
			}
			what := fmt.Sprintf("seed %d, round %d", seed, round)
			was, m := state(c.Tree), toldOf(c.Tree)
			wantPlaces(t, c.Tree, what)
			for range 60 {
				wantPath(t, c.Tree, m, c.place(), c.path(), seen, what)
			}
			if state(c.Tree) != was {
				t.Fatalf("%s: what was asked changed the tree", what)
			}
		}
	}
	wantErrs(t, seen)
}

// P1: all calls end, whatever stands wherever: mounts of files, of links, of nothing, at such.
func TestOddMounts(t *testing.T) {
	for seed := range int64(150) {
		c := &chance{Tree: New(12), r: rand.New(rand.NewSource(seed))}
		for range 80 {
			c.change()
			if c.r.Intn(4) == 0 {
				c.Mounts.Bind(inode.Number(c.r.Intn(14)), at(c.mount().Id, inode.Number(c.r.Intn(14))))
			}
		}
		was := state(c.Tree)
		for _, p := range toldOf(c.Tree).places() {
			c.Up(p)
			c.Above(p)
			c.Path(p)
			for range 3 {
				path := c.path()
				c.Find(p, path, c.r.Intn(2) == 0)
				c.Last(p, path)
				c.Real(p, path)
			}
		}
		if state(c.Tree) != was {
			t.Fatal("what was asked changed the tree")
		}
	}
}

// R6: Above's answer is new memory.
func TestAboveIsNew(t *testing.T) {
	x := New(9)
	a := made(t, x, "/a/", "")
	l, again := x.Above(at(0, a)), x.Above(at(0, a))
	for i := range l[:cap(l)] {
		l[:cap(l)][i] = at(9, 9)
	}
	if want := []mount.Place{at(0, a), mount.Top()}; !slices.Equal(again, want) {
		t.Errorf("two answers are one: %v", again)
	}
	wantAbove(t, x, at(0, a), at(0, a), mount.Top())
}

// P18.1, P18.2, R7: no tree, and one without tables: ErrNil, ahead of all else; Up says Top.
func TestNil(t *testing.T) {
	for what, x := range map[string]*Tree{"nil": nil, "without tables": {}} {
		for _, p := range []mount.Place{mount.Top(), at(0, 0), at(1, 5), at(-1, math.MaxUint16)} {
			for _, path := range []string{"/", "", ".", "a", "..", "/a/b", "#", strings.Repeat("a", 200)} {
				wantNotFound(t, x, p, path, true, 201)
				wantNotFound(t, x, p, path, false, 201)
				wantLast(t, x, p, path, mount.Place{}, "", 201)
			}
			wantUp(t, x, p, mount.Top())
			wantAbove(t, x, p)
			wantNoPath(t, x, p)
			if x.Dir(p) {
				t.Errorf("%s: Dir(%v)", what, p)
			}
		}
	}
}

// P1, P18.1: a tree with one table alone, or with tables that New didn't make, has no directories.
func TestHalf(t *testing.T) {
	for i, x := range []*Tree{{Inodes: inode.New(5)}, {Mounts: mount.New()}, {Inodes: &inode.Table{}, Mounts: mount.New()}, {Inodes: inode.New(5), Mounts: &mount.Table{}}} {
		for _, path := range []string{"/", "", ".", "a", "..", "/a/b", "/.."} {
			for _, p := range []mount.Place{mount.Top(), at(1, 1), at(0, 5)} {
				if q, s, e := x.Last(p, path); q != (mount.Place{}) || s != "" || e == api.OK {
					t.Errorf("%d: Last(%v, %q): %v, %q, %d", i, p, path, q, s, e)
				}
				if s, e := x.Real(p, path); s != "" || e == api.OK {
					t.Errorf("%d: Real(%v, %q): %q, %d", i, p, path, s, e)
				}
				x.Find(p, path, true)
				wantUp(t, x, p, mount.Top())
				wantAbove(t, x, p)
				wantNoPath(t, x, p)
				if x.Dir(p) {
					t.Errorf("%d: Dir(%v)", i, p)
				}
			}
		}
	}
}
