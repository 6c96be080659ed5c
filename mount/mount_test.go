package mount

import (
	"fmt"
	"math"
	"math/rand"
	"slices"
	"testing"

	"pinfold/api"
	"pinfold/inode"
)

func wantErr(t *testing.T, what string, got, want api.Errno) {
	t.Helper()
	if got != want {
		t.Errorf("%s: %d, want %d", what, got, want)
	}
}

func wantSeen(t *testing.T, x *Table, p, want Place) {
	t.Helper()
	if got := x.Seen(p); got != want {
		t.Errorf("Seen(%v): %v, want %v", p, got, want)
	}
}

func wantDown(t *testing.T, x *Table, p, want Place) {
	t.Helper()
	if got, ok := x.Down(p); got != want || !ok {
		t.Errorf("Down(%v): %v, %v, want %v", p, got, ok, want)
	}
}

// wantNotDown wants a place to be no mount's root, or the whole tree's.
func wantNotDown(t *testing.T, x *Table, p Place) {
	t.Helper()
	if got, ok := x.Down(p); got != (Place{}) || ok {
		t.Errorf("Down(%v): %v, %v", p, got, ok)
	}
}

func wantList(t *testing.T, x *Table, want ...Mount) {
	t.Helper()
	if got := x.List(); !slices.Equal(got, want) {
		t.Errorf("List: %v, want %v", got, want)
	}
}

// bound is a new mount, which there has to be.
func bound(t *testing.T, x *Table, root inode.Number, at Place) int {
	t.Helper()
	id, e := x.Bind(root, at)
	if e != api.OK {
		t.Fatalf("Bind(%d, %v): %d", root, at, e)
	}
	return id
}

// done wants a call to be OK.
func done(t *testing.T, e api.Errno) {
	t.Helper()
	if e != api.OK {
		t.Fatalf("%d", e)
	}
}

// full is a table of sixteen mounts: of directory 100 + n mount n, at n of the whole tree.
func full(t *testing.T) *Table {
	t.Helper()
	x := New()
	for n := inode.Number(1); n < 16; n++ {
		bound(t, x, 100+n, Place{0, n})
	}
	return x
}

// The document's example.
func TestExample(t *testing.T) {
	x := New()
	if id, e := x.Bind(5, Place{0, 7}); id != 1 || e != api.OK {
		t.Errorf("Bind: %d, %d", id, e)
	}
	wantSeen(t, x, Place{0, 7}, Place{1, 5})
}

// P17.1: mount 0 alone at first, of root 1, without a place; Top is its root.
func TestNew(t *testing.T) {
	x := New()
	whole := Mount{Id: 0, At: Place{0, 0}, Root: 1, Held: 0}
	wantList(t, x, whole)
	if m, ok := x.Get(0); m != whole || !ok {
		t.Errorf("Get(0): %v, %v", m, ok)
	}
	if Top() != (Place{Mount: 0, Inode: 1}) {
		t.Errorf("Top: %v", Top())
	}
	for _, n := range []inode.Number{0, 1, 2, 255, 256, math.MaxUint16} {
		for _, id := range []int{0, 1, -1, math.MinInt, math.MaxInt} {
			wantSeen(t, x, Place{id, n}, Place{id, n})
			wantNotDown(t, x, Place{id, n})
			wantErr(t, "Drop", x.Drop(Place{id, n}), api.ErrInvalid)
		}
		if x.Used(n) != (n == 1) {
			t.Errorf("Used(%d): %v", n, x.Used(n))
		}
	}
	wantList(t, x, whole)
}

// P17.1: a mount by its number; none of a number that none has, or none has any more.
func TestGet(t *testing.T) {
	x := New()
	bound(t, x, 5, Place{0, 7})
	bound(t, x, 6, Place{1, 8})
	done(t, x.Hold(2, true))
	done(t, x.Hold(2, true))
	for id, want := range []Mount{{0, Place{}, 1, 0}, {1, Place{0, 7}, 5, 0}, {2, Place{1, 8}, 6, 2}} {
		if m, ok := x.Get(id); m != want || !ok {
			t.Errorf("Get(%d): %v, %v, want %v", id, m, ok, want)
		}
	}
	done(t, x.Hold(2, false))
	done(t, x.Hold(2, false))
	done(t, x.Drop(Place{2, 6}))
	for _, id := range []int{2, 3, 16, -1, 65536, 65537, math.MinInt, math.MaxInt} {
		if m, ok := x.Get(id); m != (Mount{}) || ok {
			t.Errorf("Get(%d): %v, %v", id, m, ok)
		}
	}
}

// P17.1: all, in the order in which they came, whatever is gone between.
func TestList(t *testing.T) {
	x := New()
	whole := Mount{Root: 1}
	for n := inode.Number(1); n <= 4; n++ {
		bound(t, x, 20-n, Place{0, 10 - n})
	}
	wantList(t, x, whole, Mount{1, Place{0, 9}, 19, 0}, Mount{2, Place{0, 8}, 18, 0}, Mount{3, Place{0, 7}, 17, 0}, Mount{4, Place{0, 6}, 16, 0})
	done(t, x.Drop(Place{2, 18}))
	wantList(t, x, whole, Mount{1, Place{0, 9}, 19, 0}, Mount{3, Place{0, 7}, 17, 0}, Mount{4, Place{0, 6}, 16, 0})
	done(t, x.Drop(Place{4, 16}))
	bound(t, x, 3, Place{0, 2})
	wantList(t, x, whole, Mount{1, Place{0, 9}, 19, 0}, Mount{3, Place{0, 7}, 17, 0}, Mount{5, Place{0, 2}, 3, 0})
	done(t, x.Drop(Place{1, 19}))
	done(t, x.Hold(3, true))
	done(t, x.Hold(0, true))
	wantList(t, x, Mount{Root: 1, Held: 1}, Mount{3, Place{0, 7}, 17, 1}, Mount{5, Place{0, 2}, 3, 0})
}

// P17.1: what stands at a place is seen there alone: not at the same inode by another mount, not at another one.
func TestSeen(t *testing.T) {
	x := New()
	bound(t, x, 5, Place{0, 7})
	bound(t, x, 7, Place{0, 9})
	wantSeen(t, x, Place{0, 7}, Place{1, 5})
	wantSeen(t, x, Place{0, 9}, Place{2, 7})
	for _, p := range []Place{{0, 5}, {1, 7}, {1, 5}, {2, 7}, {2, 9}, {1, 9}, {0, 0}, {0, 1}, {3, 7}, {-1, 7}, {65536, 7}, {math.MinInt, math.MaxUint16}, {math.MaxInt, 9}} {
		wantSeen(t, x, p, p)
	}
	bound(t, x, 3, Place{1, 7})
	wantSeen(t, x, Place{1, 7}, Place{3, 3})
	wantSeen(t, x, Place{0, 7}, Place{1, 5})
	done(t, x.Drop(Place{3, 3}))
	wantSeen(t, x, Place{1, 7}, Place{1, 7})
	done(t, x.Drop(Place{1, 5}))
	wantSeen(t, x, Place{0, 7}, Place{0, 7})
	wantSeen(t, x, Place{0, 9}, Place{2, 7})
}

// P17.1: of what stands at a mount's root that is seen, and so on, up to the last; Down goes back one by one.
func TestSeenStacked(t *testing.T) {
	x := New()
	places := []Place{{0, 7}}
	for n := range inode.Number(15) {
		at := places[len(places)-1]
		id := bound(t, x, 5+n%2, at)
		places = append(places, Place{id, 5 + n%2})
		for _, p := range places {
			wantSeen(t, x, p, Place{id, 5 + n%2})
		}
	}
	wantNotDown(t, x, places[0])
	for i := 15; i > 0; i-- {
		wantDown(t, x, places[i], places[i-1])
		for _, p := range places[:i-1] {
			wantSeen(t, x, p, places[i])
		}
		done(t, x.Drop(places[i]))
		wantNotDown(t, x, places[i])
	}
	wantList(t, x, Mount{Root: 1})
}

// P17.1: the whole tree's root is a place as others are, and so is a mount's root of the whole tree's number.
func TestSeenTop(t *testing.T) {
	x := New()
	bound(t, x, 1, Top())
	wantSeen(t, x, Top(), Place{1, 1})
	wantDown(t, x, Place{1, 1}, Top())
	wantNotDown(t, x, Top())
	bound(t, x, 0, Place{0, 0})
	wantSeen(t, x, Place{0, 0}, Place{2, 0})
	wantDown(t, x, Place{2, 0}, Place{0, 0})
	wantNotDown(t, x, Place{0, 0})
}

// P17.1: the place at which a mount stands, of its root alone, by that mount alone.
func TestDown(t *testing.T) {
	x := New()
	bound(t, x, 5, Place{0, 7})
	bound(t, x, 5, Place{0, 8})
	bound(t, x, 6, Place{1, 9})
	wantDown(t, x, Place{1, 5}, Place{0, 7})
	wantDown(t, x, Place{2, 5}, Place{0, 8})
	wantDown(t, x, Place{3, 6}, Place{1, 9})
	for _, p := range []Place{{0, 5}, {0, 7}, {0, 1}, {0, 0}, {1, 6}, {1, 7}, {1, 1}, {1, 0}, {2, 6}, {3, 5}, {3, 9}, {4, 5}, {-1, 5}, {65537, 5}, {math.MinInt, 5}, {math.MaxInt, 5}, {1, math.MaxUint16}} {
		wantNotDown(t, x, p)
	}
	done(t, x.Drop(Place{2, 5}))
	wantNotDown(t, x, Place{2, 5})
	wantDown(t, x, Place{1, 5}, Place{0, 7})
}

// P17.2: numbers are 1, 2, and so on: one that is gone leaves its own to nobody.
func TestBindNumbers(t *testing.T) {
	x := New()
	for want := 1; want <= 15; want++ {
		if id := bound(t, x, 5, Place{0, inode.Number(want)}); id != want {
			t.Errorf("number %d, want %d", id, want)
		}
	}
	done(t, x.Drop(Place{15, 5}))
	done(t, x.Drop(Place{3, 5}))
	for want := 16; want <= 17; want++ {
		if id := bound(t, x, 5, Place{0, inode.Number(want)}); id != want {
			t.Errorf("number %d, want %d", id, want)
		}
	}
	for want := 18; want < 400; want++ {
		done(t, x.Drop(Place{want - 1, 5}))
		if id := bound(t, x, 5, Place{0, 17}); id != want {
			t.Errorf("number %d, want %d", id, want)
		}
	}
}

// P17.2: what can't be bound takes no number.
func TestBindWrongNumber(t *testing.T) {
	x := full(t)
	for _, p := range []Place{{0, 99}, {0, 1}, {99, 1}} {
		if id, e := x.Bind(5, p); id != 0 || e == api.OK {
			t.Errorf("Bind(5, %v): %d, %d", p, id, e)
		}
	}
	done(t, x.Drop(Place{1, 101}))
	if id := bound(t, x, 5, Place{0, 1}); id != 16 {
		t.Errorf("number %d", id)
	}
}

// P17.2: any directory at any place of a mount that is there, the same one at many; nothing is asked of the tree.
func TestBindAny(t *testing.T) {
	x := New()
	for i, b := range []struct {
		root inode.Number
		at   Place
	}{{5, Place{0, 7}}, {5, Place{0, 8}}, {5, Place{0, 5}}, {5, Place{1, 5}}, {1, Place{0, 1}}, {0, Place{0, 0}}, {0, Place{1, 0}}, {7, Place{1, 7}}, {math.MaxUint16, Place{0, math.MaxUint16}}, {8, Place{8, 8}}, {5, Place{10, 8}}} {
		want := Mount{i + 1, b.at, b.root, 0}
		if id := bound(t, x, b.root, b.at); id != i+1 {
			t.Errorf("Bind(%d, %v): %d", b.root, b.at, id)
		}
		if m, ok := x.Get(i + 1); m != want || !ok {
			t.Errorf("Get(%d): %v, %v, want %v", i+1, m, ok, want)
		}
	}
}

// P17.2: at no place of a mount that isn't there, or isn't there any more.
func TestBindInvalid(t *testing.T) {
	x := New()
	bound(t, x, 5, Place{0, 7})
	bound(t, x, 6, Place{0, 8})
	done(t, x.Drop(Place{1, 5}))
	for _, id := range []int{1, 3, -1, 65536, math.MinInt, math.MaxInt} {
		for _, n := range []inode.Number{0, 1, 5, 7, 8} {
			got, e := x.Bind(5, Place{id, n})
			if got != 0 || e != api.ErrInvalid {
				t.Errorf("Bind(5, {%d %d}): %d, %d", id, n, got, e)
			}
		}
	}
	wantList(t, x, Mount{Root: 1}, Mount{2, Place{0, 8}, 6, 0})
}

// P17.2: at no place at which one stands; at its root, at the same inode by another mount, and when it is gone.
func TestBindBusy(t *testing.T) {
	x := New()
	bound(t, x, 5, Place{0, 7})
	for _, root := range []inode.Number{5, 6, 7, 1, 0} {
		if id, e := x.Bind(root, Place{0, 7}); id != 0 || e != api.ErrBusy {
			t.Errorf("Bind(%d, {0 7}): %d, %d", root, id, e)
		}
	}
	bound(t, x, 6, Place{1, 5})
	bound(t, x, 6, Place{1, 7})
	bound(t, x, 6, Place{0, 5})
	_, e := x.Bind(8, Place{1, 5})
	wantErr(t, "Bind at a root at which one stands", e, api.ErrBusy)
	done(t, x.Drop(Place{2, 6}))
	bound(t, x, 8, Place{1, 5})
}

// P17.2: sixteen in all, the whole tree's with them.
func TestBindFull(t *testing.T) {
	x := New()
	for n := inode.Number(1); n <= 15; n++ {
		bound(t, x, 100, Place{0, n})
	}
	was := x.List()
	if len(was) != 16 {
		t.Fatalf("%d mounts", len(was))
	}
	for _, p := range []Place{{0, 16}, {0, 100}, {1, 100}, {15, 100}, {0, 0}} {
		if id, e := x.Bind(5, p); id != 0 || e != api.ErrNoSpace {
			t.Errorf("Bind(5, %v): %d, %d", p, id, e)
		}
	}
	_, busy := x.Bind(5, Place{0, 15})
	wantErr(t, "Bind at a place at which one stands, of sixteen", busy, api.ErrBusy)
	_, invalid := x.Bind(5, Place{16, 100})
	wantErr(t, "Bind at no mount's, of sixteen", invalid, api.ErrInvalid)
	wantList(t, x, was...)
	done(t, x.Drop(Place{7, 100}))
	bound(t, x, 5, Place{0, 16})
	_, e := x.Bind(5, Place{0, 7})
	wantErr(t, "Bind, of sixteen again", e, api.ErrNoSpace)
}

// P17.2: Drop takes a mount by its root, as that mount shows it.
func TestDrop(t *testing.T) {
	x := New()
	bound(t, x, 5, Place{0, 7})
	bound(t, x, 5, Place{0, 8})
	was := x.List()
	for _, p := range []Place{{0, 7}, {0, 8}, {0, 5}, {0, 1}, {0, 0}, {1, 7}, {1, 1}, {1, 0}, {2, 8}, {3, 5}, {-1, 5}, {math.MinInt, 5}, {math.MaxInt, 5}} {
		wantErr(t, fmt.Sprintf("Drop(%v)", p), x.Drop(p), api.ErrInvalid)
	}
	wantList(t, x, was...)
	done(t, x.Drop(Place{1, 5}))
	wantList(t, x, Mount{Root: 1}, Mount{2, Place{0, 8}, 5, 0})
	wantErr(t, "Drop of what is gone", x.Drop(Place{1, 5}), api.ErrInvalid)
	wantErr(t, "Hold of what is gone", x.Hold(1, true), api.ErrNone)
	_, e := x.Bind(6, Place{1, 5})
	wantErr(t, "Bind at what is gone", e, api.ErrInvalid)
	done(t, x.Drop(Place{2, 5}))
	wantList(t, x, Mount{Root: 1})
}

// P17.2: the whole tree's isn't dropped, held or not, whatever stands at its root.
func TestDropWhole(t *testing.T) {
	x := New()
	wantErr(t, "Drop", x.Drop(Top()), api.ErrInvalid)
	done(t, x.Hold(0, true))
	wantErr(t, "Drop of what is held", x.Drop(Top()), api.ErrInvalid)
	bound(t, x, 1, Top())
	wantErr(t, "Drop of what another one stands at", x.Drop(Top()), api.ErrInvalid)
	done(t, x.Drop(Place{1, 1}))
}

// P17.2: a mount that is held isn't dropped, till it is held no more.
func TestDropHeld(t *testing.T) {
	x := New()
	bound(t, x, 5, Place{0, 7})
	bound(t, x, 6, Place{0, 8})
	done(t, x.Hold(1, true))
	done(t, x.Hold(1, true))
	for held := 2; held > 0; held-- {
		was := x.List()
		wantErr(t, fmt.Sprint("Drop, held ", held), x.Drop(Place{1, 5}), api.ErrBusy)
		wantErr(t, "Drop of another inode", x.Drop(Place{1, 6}), api.ErrInvalid)
		wantList(t, x, was...)
		done(t, x.Hold(1, false))
	}
	done(t, x.Hold(2, true))
	done(t, x.Drop(Place{1, 5}))
	wantErr(t, "Drop of the other one", x.Drop(Place{2, 6}), api.ErrBusy)
}

// P17.2: a mount at a place of which another one stands isn't dropped: at its root, or at any other of its inodes.
func TestDropBeneath(t *testing.T) {
	for _, n := range []inode.Number{5, 6, 7, 1, 0, math.MaxUint16} {
		x := New()
		bound(t, x, 5, Place{0, 7})
		bound(t, x, 6, Place{0, 8})
		bound(t, x, 9, Place{1, n})
		was := x.List()
		wantErr(t, fmt.Sprintf("Drop, one at %d", n), x.Drop(Place{1, 5}), api.ErrBusy)
		wantList(t, x, was...)
		done(t, x.Drop(Place{2, 6}))
		done(t, x.Drop(Place{3, 9}))
		done(t, x.Drop(Place{1, 5}))
	}
}

// P17.2: a mount stands in one by its place alone, not since its root, or its inode, is that one's.
func TestDropBeside(t *testing.T) {
	x := New()
	bound(t, x, 5, Place{0, 7})
	bound(t, x, 5, Place{0, 5})
	bound(t, x, 7, Place{0, 6})
	bound(t, x, 8, Place{2, 7})
	done(t, x.Drop(Place{1, 5}))
	wantErr(t, "Drop of what another one stands at", x.Drop(Place{2, 5}), api.ErrBusy)
	wantErr(t, "Drop, by the whole tree's", x.Drop(Place{0, 5}), api.ErrInvalid)
}

// P17.2: once more, once less, each mount by itself, the whole tree's, too; not below 0.
func TestHold(t *testing.T) {
	x := New()
	bound(t, x, 5, Place{0, 7})
	bound(t, x, 6, Place{0, 8})
	for id := range 3 {
		wantErr(t, "Hold less of what isn't held", x.Hold(id, false), api.ErrInvalid)
		for range id + 1 {
			wantErr(t, "Hold", x.Hold(id, true), api.OK)
		}
	}
	wantList(t, x, Mount{Root: 1, Held: 1}, Mount{1, Place{0, 7}, 5, 2}, Mount{2, Place{0, 8}, 6, 3})
	for id := range 3 {
		for range id + 1 {
			wantErr(t, "Hold less", x.Hold(id, false), api.OK)
		}
		wantErr(t, "Hold less of what isn't held any more", x.Hold(id, false), api.ErrInvalid)
	}
	wantList(t, x, Mount{Root: 1}, Mount{1, Place{0, 7}, 5, 0}, Mount{2, Place{0, 8}, 6, 0})
	for _, id := range []int{3, -1, 16, 65536, math.MinInt, math.MaxInt} {
		wantErr(t, fmt.Sprintf("Hold(%d, true)", id), x.Hold(id, true), api.ErrNone)
		wantErr(t, fmt.Sprintf("Hold(%d, false)", id), x.Hold(id, false), api.ErrNone)
	}
}

// P17.2: the roots of mounts, the whole tree's with them, and the inodes at which they stand, by whichever mount.
func TestUsed(t *testing.T) {
	x := New()
	wantUsed := func(want ...inode.Number) {
		t.Helper()
		for n := range math.MaxUint16 + 1 {
			if got := x.Used(inode.Number(n)); got != slices.Contains(want, inode.Number(n)) {
				t.Errorf("Used(%d): %v", n, got)
			}
		}
	}
	wantUsed(1)
	bound(t, x, 5, Place{0, 7})
	wantUsed(1, 5, 7)
	bound(t, x, 5, Place{1, 300})
	wantUsed(1, 5, 7, 300)
	done(t, x.Drop(Place{2, 5}))
	wantUsed(1, 5, 7)
	bound(t, x, 9, Place{0, 0})
	wantUsed(0, 1, 5, 7, 9)
	bound(t, x, 7, Place{0, 9})
	done(t, x.Drop(Place{1, 5}))
	wantUsed(0, 1, 7, 9)
}

// scenes are calls that make tables: with mounts beside each other, one in the other, held, gone, and full ones.
func scenes() []func(b *both) {
	few := func(b *both) {
		b.bind(5, Place{0, 7})
		b.bind(6, Place{1, 5})
		b.bind(5, Place{1, 7})
		b.bind(1, Place{0, 0})
		b.bind(7, Place{0, 1})
		b.hold(2, true)
		b.hold(5, true)
		b.hold(5, true)
	}
	gone := func(b *both) {
		few(b)
		b.drop(Place{3, 5})
		b.drop(Place{4, 1})
		b.bind(0, Place{2, 0})
	}
	deep := func(b *both) {
		for id := range 15 {
			b.bind(5, Place{id, 5})
		}
		b.hold(15, true)
	}
	crowded := func(b *both) {
		gone(b)
		for n := range inode.Number(11) {
			b.bind(n, Place{int(n) % 2, 100 + n})
		}
	}
	return []func(b *both){func(*both) {}, few, gone, deep, crowded}
}

// swept makes one call of a table, and of the same told once more, of each scene, for all that may be right and wrong of it at once; how often it had which error.
func swept(t *testing.T, call func(b *both, p Place, n inode.Number) api.Errno) map[api.Errno]int {
	t.Helper()
	inodes := []inode.Number{0, 1, 2, 5, 6, 7, 100, math.MaxUint16}
	seen := map[api.Errno]int{}
	for _, scene := range scenes() {
		b := newBoth(t, inodes...)
		scene(b)
		for _, id := range b.m.toldIds() {
			for _, n := range inodes {
				for _, root := range inodes[:6] {
					x := &Table{mounts: b.x.List(), last: b.x.last}
					c := &both{t: t, x: x, m: b.m.clone(), inodes: inodes, what: b.what}
					was := x.List()
					e := call(c, Place{id, n}, root)
					seen[e]++
					if e != api.OK && !slices.Equal(x.List(), was) {
						t.Fatalf("%s: what answered %d changed %v into %v", c.what, e, was, x.List())
					}
				}
			}
		}
	}
	return seen
}

func wantErrs(t *testing.T, seen map[api.Errno]int, want ...api.Errno) {
	t.Helper()
	for _, e := range want {
		if seen[e] == 0 {
			t.Errorf("never %d: %v", e, seen)
		}
	}
	if len(seen) != len(want) {
		t.Errorf("%v, want %v", seen, want)
	}
}

// P17.2, R2, R3, R4: Bind, Drop, Hold of all that may be wrong of them at once.
func TestSweep(t *testing.T) {
	wantErrs(t, swept(t, func(b *both, p Place, root inode.Number) api.Errno {
		_, e := b.bind(root, p)
		return e
	}), api.OK, api.ErrInvalid, api.ErrBusy, api.ErrNoSpace)
	wantErrs(t, swept(t, func(b *both, p Place, _ inode.Number) api.Errno {
		return b.drop(p)
	}), api.OK, api.ErrInvalid, api.ErrBusy)
	wantErrs(t, swept(t, func(b *both, p Place, n inode.Number) api.Errno {
		return b.hold(p.Mount, n%2 == 0)
	}), api.OK, api.ErrNone, api.ErrInvalid)
}

// R6: List's answer is new memory, at which the table doesn't look again; what Get answers is another one.
func TestAnswersAreNew(t *testing.T) {
	x := full(t)
	done(t, x.Drop(Place{4, 104}))
	was := slices.Clone(x.List())
	l, again := x.List(), x.List()
	for i := range l[:cap(l)] {
		l[:cap(l)][i] = Mount{99, Place{99, 99}, 99, 99}
	}
	m, _ := x.Get(1)
	m.Root, m.Held = 98, 98
	wantList(t, x, was...)
	if !slices.Equal(again, was) {
		t.Errorf("two answers are one: %v", again)
	}
	bound(t, x, 5, Place{0, 50})
	done(t, x.Hold(1, true))
	done(t, x.Drop(Place{2, 102}))
	if !slices.Equal(again, was) {
		t.Errorf("an answer is the table's own: %v", again)
	}
}

// R8: tables know nothing of each other.
func TestTablesApart(t *testing.T) {
	x, y := New(), New()
	bound(t, x, 5, Place{0, 7})
	bound(t, x, 6, Place{0, 8})
	done(t, x.Hold(0, true))
	wantList(t, y, Mount{Root: 1})
	wantSeen(t, y, Place{0, 7}, Place{0, 7})
	if id := bound(t, y, 5, Place{0, 7}); id != 1 {
		t.Errorf("number %d", id)
	}
	wantList(t, x, Mount{Root: 1, Held: 1}, Mount{1, Place{0, 7}, 5, 0}, Mount{2, Place{0, 8}, 6, 0})
}

// wantNone wants a table to have no mounts: nothing is there, nothing is hidden, nothing can be added.
func wantNone(t *testing.T, x *Table, bind, drop api.Errno) {
	t.Helper()
	for _, id := range []int{0, 1, -1, math.MinInt, math.MaxInt} {
		for _, n := range []inode.Number{0, 1, 5, math.MaxUint16} {
			p := Place{id, n}
			got, e := x.Bind(n, p)
			if got != 0 || e != bind {
				t.Errorf("Bind(%d, %v): %d, %d", n, p, got, e)
			}
			wantErr(t, "Drop", x.Drop(p), drop)
			wantErr(t, "Hold", x.Hold(id, true), api.ErrNone)
			wantErr(t, "Hold less", x.Hold(id, false), api.ErrNone)
			wantSeen(t, x, p, p)
			wantNotDown(t, x, p)
			if x.Used(n) {
				t.Errorf("Used(%d)", n)
			}
		}
		if m, ok := x.Get(id); m != (Mount{}) || ok {
			t.Errorf("Get(%d): %v, %v", id, m, ok)
		}
	}
	if len(x.List()) != 0 {
		t.Errorf("List: %v", x.List())
	}
}

// P17.1, P17.2, R7: a nil table answers ErrNil, but Hold ErrNone, Seen the place; one that New didn't make has no mounts.
func TestNil(t *testing.T) {
	wantNone(t, nil, api.ErrNil, api.ErrNil)
	wantNone(t, &Table{}, api.ErrInvalid, api.ErrInvalid)
}

// P17.1, P17.2, P1, R4, R8: calls by chance, held against the same told once more: mostly Binds, so that tables are full, down to mostly others.
func TestByChance(t *testing.T) {
	seen := map[api.Errno]int{}
	for seed := range int64(120) {
		c := &chance{both: newBoth(t, 0, 1, 2, 3, 5, 7), r: rand.New(rand.NewSource(seed))}
		binds := 3 + int(seed)%5
		for range 200 {
			seen[c.call(binds)]++
		}
	}
	wantErrs(t, seen, api.OK, api.ErrNone, api.ErrBusy, api.ErrInvalid, api.ErrNoSpace)
}
