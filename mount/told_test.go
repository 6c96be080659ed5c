package mount

import (
	"fmt"
	"math"
	"math/rand"
	"slices"
	"testing"

	"pinfold/api"
	"pinfold/inode"
)

// told is a table told once more: all mounts that ever were, each at its number. The document's numbers are written out, lest a constant that was changed change what it is held against.
type told []toldMount

type toldMount struct {
	at   *Place // nil: it stands nowhere
	root inode.Number
	held int
	gone bool
}

func toldNew() told { return told{{root: 1}} }

// is: is there a mount of a number?
func (m told) is(id int) bool { return id >= 0 && id < len(m) && !m[id].gone }

// ids: the numbers of all that are there, rising.
func (m told) ids() []int {
	var l []int
	for id := range m {
		if m.is(id) {
			l = append(l, id)
		}
	}
	return l
}

func (m told) mount(id int) Mount {
	x := Mount{Id: id, Root: m[id].root, Held: m[id].held}
	if m[id].at != nil {
		x.At = *m[id].at
	}
	return x
}

// over: all that stand at places of which something is so.
func (m told) over(is func(p Place) bool) []int {
	return slices.DeleteFunc(m.ids(), func(id int) bool { return m[id].at == nil || !is(*m[id].at) })
}

func (m told) seen(p Place) Place {
	l := m.over(func(at Place) bool { return at == p })
	if len(l) == 0 {
		return p
	}
	return m.seen(Place{l[0], m[l[0]].root})
}

func (m told) down(p Place) (Place, bool) {
	if p.Mount == 0 || !m.is(p.Mount) || m[p.Mount].root != p.Inode {
		return Place{}, false
	}
	return *m[p.Mount].at, true
}

func (m *told) bind(root inode.Number, at Place) (int, api.Errno) {
	if !m.is(at.Mount) {
		return 0, 22
	}
	if m.seen(at) != at || len(m.over(func(p Place) bool { return p == at })) > 0 {
		return 0, 16
	}
	if len(m.ids()) == 16 {
		return 0, 28
	}
	*m = append(*m, toldMount{at: &at, root: root})
	return len(*m) - 1, 0
}

func (m told) drop(p Place) api.Errno {
	if _, ok := m.down(p); !ok {
		return 22
	}
	if m[p.Mount].held != 0 || len(m.over(func(at Place) bool { return at.Mount == p.Mount })) > 0 {
		return 16
	}
	m[p.Mount].gone = true
	return 0
}

func (m told) hold(id int, more bool) api.Errno {
	if !m.is(id) {
		return 2
	}
	if more {
		m[id].held++
		return 0
	}
	if m[id].held == 0 {
		return 22
	}
	m[id].held--
	return 0
}

func (m told) used(n inode.Number) bool {
	for _, id := range m.ids() {
		if m[id].root == n {
			return true
		}
	}
	return len(m.over(func(p Place) bool { return p.Inode == n })) > 0
}

// clone is another telling of the same.
func (m told) clone() told { return slices.Clone(m) }

// lists: all mounts, as List is to tell them.
func (m told) lists() []Mount {
	var l []Mount
	for _, id := range m.ids() {
		l = append(l, m.mount(id))
	}
	return l
}

// toldIds are all numbers of mounts that ever were, and some that never were.
func (m told) toldIds() []int {
	l := []int{-1, len(m), len(m) + 1, 255, 256, 65536, math.MinInt, math.MaxInt}
	for id := range m {
		l = append(l, id)
	}
	return l
}

// wantTold wants a table to be as it is told, by all that may be asked of it with some inodes.
func wantTold(t *testing.T, x *Table, m told, inodes []inode.Number, what string) {
	t.Helper()
	if got, want := x.List(), m.lists(); !slices.Equal(got, want) {
		t.Fatalf("%s: List %v, want %v", what, got, want)
	}
	for _, id := range m.toldIds() {
		want := Mount{}
		if m.is(id) {
			want = m.mount(id)
		}
		if got, ok := x.Get(id); got != want || ok != m.is(id) {
			t.Fatalf("%s: Get(%d): %v, %v, want %v", what, id, got, ok, want)
		}
		for _, n := range inodes {
			p := Place{id, n}
			if got, want := x.Seen(p), m.seen(p); got != want {
				t.Fatalf("%s: Seen(%v): %v, want %v", what, p, got, want)
			}
			got, ok := x.Down(p)
			if want, is := m.down(p); got != want || ok != is {
				t.Fatalf("%s: Down(%v): %v, %v, want %v, %v", what, p, got, ok, want, is)
			}
		}
	}
	for _, n := range inodes {
		if got, want := x.Used(n), m.used(n); got != want {
			t.Fatalf("%s: Used(%d): %v", what, n, got)
		}
	}
}

// wantWhole wants a table to fit together: mount 0 is there; each other one stands at a place of one that is there, and came ahead of it; no two at one place; what is seen at a place has nothing upon it, and the ways down from it come to that place.
func wantWhole(t *testing.T, x *Table, what string) {
	t.Helper()
	l := x.List()
	if len(l) == 0 || len(l) > 16 || l[0].Id != 0 || l[0].Root != 1 || l[0].At != (Place{}) {
		t.Fatalf("%s: %v", what, l)
	}
	for i, m := range l[1:] {
		ahead := slices.ContainsFunc(l[:i+1], func(o Mount) bool { return o.Id == m.At.Mount })
		other := slices.ContainsFunc(l[1:i+1], func(o Mount) bool { return o.At == m.At })
		if !ahead || other || m.Id <= l[i].Id || m.Held < 0 {
			t.Fatalf("%s: %v in %v", what, m, l)
		}
		seen := x.Seen(m.At)
		p, ok := x.Down(seen)
		for range l {
			if ok && p != m.At {
				p, ok = x.Down(p)
			}
		}
		if seen == m.At || x.Seen(seen) != seen || !ok || p != m.At || !x.Used(m.Root) || !x.Used(m.At.Inode) {
			t.Fatalf("%s: at %v %v is seen, and below it %v", what, m.At, seen, p)
		}
	}
}

// both is a table, and the same told once more: each call is made of both.
type both struct {
	t      *testing.T
	x      *Table
	m      told
	inodes []inode.Number // those that are asked for
	what   string         // the calls so far
}

func newBoth(t *testing.T, inodes ...inode.Number) *both {
	return &both{t: t, x: New(), m: toldNew(), inodes: inodes}
}

// same wants both to have answered the same, and to be the same now.
func (b *both) same(call string, got, want int, e, f api.Errno) api.Errno {
	b.t.Helper()
	b.what += fmt.Sprintf("; %s: %d", call, e)
	if len(b.what) > 1200 {
		b.what = b.what[len(b.what)-1000:]
	}
	if got != want || e != f {
		b.t.Fatalf("%s: %d, %d, want %d, %d", b.what, got, e, want, f)
	}
	wantTold(b.t, b.x, b.m, b.inodes, b.what)
	wantWhole(b.t, b.x, b.what)
	return e
}

func (b *both) bind(root inode.Number, at Place) (int, api.Errno) {
	b.t.Helper()
	id, e := b.x.Bind(root, at)
	want, f := b.m.bind(root, at)
	return id, b.same(fmt.Sprintf("Bind(%d, %v)", root, at), id, want, e, f)
}

func (b *both) drop(p Place) api.Errno {
	b.t.Helper()
	return b.same(fmt.Sprintf("Drop(%v)", p), 0, 0, b.x.Drop(p), b.m.drop(p))
}

func (b *both) hold(id int, more bool) api.Errno {
	b.t.Helper()
	return b.same(fmt.Sprintf("Hold(%d, %v)", id, more), 0, 0, b.x.Hold(id, more), b.m.hold(id, more))
}

// chance makes calls by chance.
type chance struct {
	*both
	r *rand.Rand
}

// one of a list.
func one[T any](r *rand.Rand, l []T) T { return l[r.Intn(len(l))] }

// id: mostly a mount's that is there.
func (c *chance) id() int {
	if c.r.Intn(10) == 0 {
		return one(c.r, c.m.toldIds())
	}
	return one(c.r, c.m.ids())
}

// place: one of any inode, or a mount's root.
func (c *chance) place() Place {
	id := c.id()
	if c.m.is(id) && c.r.Intn(3) > 0 {
		return Place{id, c.m[id].root}
	}
	return Place{id, one(c.r, c.inodes)}
}

// call makes one; so many of ten of them are Binds.
func (c *chance) call(binds int) api.Errno {
	switch n := c.r.Intn(10); {
	case n < binds:
		_, e := c.bind(one(c.r, c.inodes), c.place())
		return e
	case n < 8:
		return c.drop(c.place())
	default:
		return c.hold(c.id(), c.r.Intn(2) == 0)
	}
}
