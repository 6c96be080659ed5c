package inode

import (
	"bytes"
	"fmt"
	"maps"
	"math/rand"
	"slices"
	"sort"
	"testing"

	"pinfold/api"
)

// told is a table told once more: all names in one list, and of each inode what no name tells. The document's numbers are written out, lest a constant that was changed change what it is held against.
type told struct {
	limit   int
	inodes  map[Number]toldInode
	names   []toldName
	changes int64
}

type toldInode struct {
	kind   Kind
	data   string
	text   string
	parent Number
	held   int
}

type toldName struct {
	in   Number
	name string
	n    Number
}

func toldNew(limit int) *told {
	if limit < 1 {
		limit = 1
	}
	if limit > 256 {
		limit = 256
	}
	return &told{limit: limit, inodes: map[Number]toldInode{1: {kind: 2, parent: 1}}}
}

func (m *told) numbers() []Number { return slices.Sorted(maps.Keys(m.inodes)) }

// links: how many names an inode has.
func (m *told) links(n Number) int {
	many := 0
	if n == 1 {
		many = 1
	}
	for _, x := range m.names {
		if x.n == n {
			many++
		}
	}
	return many
}

// in: the names of a directory, by the names.
func (m *told) in(d Number) map[string]Number {
	l := map[string]Number{}
	for _, x := range m.names {
		if x.in == d {
			l[x.name] = x.n
		}
	}
	return l
}

// settled: what has neither name nor holder is gone.
func (m *told) settled() api.Errno {
	for _, n := range m.numbers() {
		if m.links(n) == 0 && m.inodes[n].held == 0 {
			delete(m.inodes, n)
		}
	}
	return 0
}

func (m *told) unname(d Number, name string) {
	m.names = slices.DeleteFunc(m.names, func(x toldName) bool { return x.in == d && x.name == name })
}

// name: an inode has a name more; what is a directory stands there.
func (m *told) name(d Number, name string, n Number) {
	m.names = append(m.names, toldName{d, name, n})
	if x := m.inodes[n]; x.kind == 2 {
		x.parent = d
		m.inodes[n] = x
	}
}

func toldIsName(s string) bool {
	if len(s) == 0 || len(s) > 14 || s == "." || s == ".." {
		return false
	}
	for i := range len(s) {
		if s[i] <= ' ' || s[i] >= 127 || s[i] == '/' || s[i] == '#' {
			return false
		}
	}
	return true
}

// isDir: ErrNone, ErrNotDir of a number.
func (m *told) isDir(n Number) api.Errno {
	x, ok := m.inodes[n]
	if !ok {
		return 2
	}
	if x.kind != 2 {
		return 20
	}
	return 0
}

func (m *told) look(in Number, name string) (Number, api.Errno) {
	if e := m.isDir(in); e != 0 {
		return 0, e
	}
	n, ok := m.in(in)[name]
	if !ok {
		return 0, 2
	}
	return n, 0
}

// mayAdd: 'a name may be added'.
func (m *told) mayAdd(in Number, name string) api.Errno {
	if e := m.isDir(in); e != 0 {
		return e
	}
	if !toldIsName(name) {
		return 22
	}
	if _, ok := m.in(in)[name]; ok {
		return 17
	}
	if m.links(in) == 0 {
		return 2
	}
	if len(m.in(in)) == 32 {
		return 28
	}
	return 0
}

// deep: how deep a directory with a name stands.
func (m *told) deep(n Number) int {
	if n == 1 {
		return 0
	}
	return 1 + m.deep(m.inodes[n].parent)
}

func (m *told) make(in Number, name string, k Kind, text string) (Number, api.Errno) {
	if e := m.mayAdd(in, name); e != 0 {
		return 0, e
	}
	if k == 0 || k > 3 || k == 3 && (len(text) == 0 || len(text) > 120) {
		return 0, 22
	}
	if len(m.inodes) == m.limit || k == 2 && m.deep(in) == 16 {
		return 0, 28
	}
	n := Number(1)
	for m.inodes[n].kind != 0 {
		n++
	}
	x := toldInode{kind: k}
	if k == 3 {
		x.text = text
	}
	m.inodes[n] = x
	m.name(in, name, n)
	m.changes++
	return n, 0
}

func (m *told) add(in Number, name string, n Number) api.Errno {
	x, ok := m.inodes[n]
	if !ok {
		return 2
	}
	if x.kind == 2 {
		return 1
	}
	if e := m.mayAdd(in, name); e != 0 {
		return e
	}
	if m.links(n) == 0 {
		return 2
	}
	if m.links(n) == 256 {
		return 31
	}
	m.name(in, name, n)
	m.changes++
	return 0
}

func (m *told) drop(in Number, name string, dir bool) api.Errno {
	n, e := m.look(in, name)
	if e != 0 {
		return e
	}
	is := m.inodes[n].kind == 2
	if dir && !is {
		return 20
	}
	if !dir && is {
		return 21
	}
	if len(m.in(n)) > 0 {
		return 39
	}
	m.unname(in, name)
	m.changes++
	return m.settled()
}

// lower: how deep the deepest directory with a name would stand, if a directory stood so deep.
func (m *told) lower(n Number, deep int) int {
	deepest := deep
	for _, x := range m.in(n) {
		if m.inodes[x].kind == 2 {
			deepest = max(deepest, m.lower(x, deep+1))
		}
	}
	return deepest
}

func (m *told) move(from Number, name string, to Number, other string) api.Errno {
	n, e := m.look(from, name)
	if e != 0 {
		return e
	}
	if e := m.isDir(to); e != 0 {
		return e
	}
	there, taken := m.in(to)[other]
	dir := m.inodes[n].kind == 2
	if taken && there == n {
		return 0
	}
	if to != from && !taken && len(m.in(to)) == 32 {
		return 28
	}
	if !toldIsName(other) {
		return 22
	}
	if m.links(to) == 0 {
		return 2
	}
	if dir && m.within(to, n) {
		return 22
	}
	if dir && m.lower(n, m.deep(to)+1) > 16 {
		return 28
	}
	if taken {
		is := m.inodes[there].kind == 2
		if dir && !is {
			return 20
		}
		if !dir && is {
			return 21
		}
		if len(m.in(there)) > 0 {
			return 39
		}
		m.unname(to, other)
		m.changes++
	}
	m.unname(from, name)
	m.name(to, other, n)
	m.changes++
	return m.settled()
}

func (m *told) hold(n Number, more bool) api.Errno {
	x, ok := m.inodes[n]
	if !ok {
		return 2
	}
	if !more && x.held == 0 {
		return 22
	}
	if more {
		x.held++
	} else {
		x.held--
	}
	m.inodes[n] = x
	return m.settled()
}

func (m *told) within(n, outer Number) bool {
	x := m.inodes[n]
	if x.kind != 2 {
		return false
	}
	return n == outer || x.parent != n && m.within(x.parent, outer)
}

func (m *told) entries(n Number) ([]string, api.Errno) {
	if e := m.isDir(n); e != 0 {
		return nil, e
	}
	return slices.Sorted(maps.Keys(m.in(n))), 0
}

func (m *told) spots(n Number) []Spot {
	var l []Spot
	for _, x := range m.names {
		if x.n == n {
			l = append(l, Spot{In: x.in, Name: x.name})
		}
	}
	sort.Slice(l, func(i, j int) bool {
		return l[i].In < l[j].In || l[i].In == l[j].In && l[i].Name < l[j].Name
	})
	return l
}

// file: the errors that Write and Cut begin with.
func (m *told) file(n Number, at int) api.Errno {
	switch m.inodes[n].kind {
	case 0:
		return 2
	case 2:
		return 21
	case 3:
		return 22
	}
	if at < 0 {
		return 22
	}
	return 0
}

func (m *told) write(n Number, at int, b []byte) api.Errno {
	if e := m.file(n, at); e != 0 {
		return e
	}
	if at > 1024 || at+len(b) > 1024 {
		return 27
	}
	x := m.inodes[n]
	data := []byte(x.data)
	for len(data) < at+len(b) {
		data = append(data, 0)
	}
	for i, c := range b {
		data[at+i] = c
	}
	x.data = string(data)
	m.inodes[n] = x
	m.changes++
	return 0
}

func (m *told) cut(n Number, size int) api.Errno {
	if e := m.file(n, size); e != 0 {
		return e
	}
	if size > 1024 {
		return 27
	}
	x := m.inodes[n]
	x.data = (x.data + string(make([]byte, size)))[:size]
	m.inodes[n] = x
	m.changes++
	return 0
}

// node: an inode as it is to be looked at.
func (m *told) node(n Number) *Node {
	x, ok := m.inodes[n]
	if !ok {
		return nil
	}
	return &Node{Number: n, Kind: x.kind, Data: []byte(x.data), Names: m.in(n), Parent: x.parent, Text: x.text, Links: m.links(n), Held: x.held}
}

// asText: all of a node; lists that are nil or empty are the same.
func asText(x *Node) string {
	if x == nil {
		return "none"
	}
	return fmt.Sprintf("%d kind %d data %q names %v parent %d text %q links %d held %d", x.Number, x.Kind, x.Data, x.Names, x.Parent, x.Text, x.Links, x.Held)
}

// wantTold wants a table to be as it is told, by all that may be asked.
func wantTold(t *testing.T, x *Table, m *told, what string) {
	t.Helper()
	if got, want := x.Numbers(), m.numbers(); !slices.Equal(got, want) || x.Len() != len(want) {
		t.Fatalf("%s: Numbers %v, Len %d, want %v", what, got, x.Len(), want)
	}
	if x.Changes() != m.changes {
		t.Fatalf("%s: Changes %d, want %d", what, x.Changes(), m.changes)
	}
	for n := range Number(m.limit + 3) {
		if got, want := asText(x.Get(n)), asText(m.node(n)); got != want {
			t.Fatalf("%s: Get(%d):\n%s, want\n%s", what, n, got, want)
		}
		if got, want := x.Spots(n), m.spots(n); !slices.Equal(got, want) {
			t.Fatalf("%s: Spots(%d): %v, want %v", what, n, got, want)
		}
		got, e := x.Entries(n)
		if want, f := m.entries(n); !slices.Equal(got, want) || e != f {
			t.Fatalf("%s: Entries(%d): %v, %d, want %v, %d", what, n, got, e, want, f)
		}
		for outer := range Number(m.limit + 3) {
			if got, want := x.Within(n, outer), m.within(n, outer); got != want {
				t.Fatalf("%s: Within(%d, %d): %v", what, n, outer, got)
			}
		}
	}
}

// wantWhole wants a table to fit together: each name is one, of what is there, and stands where its directory's Parent says; there are as many names as Links say; what has none is held; all that has a name is to be come to from the root, at most sixteen directories deep.
func wantWhole(t *testing.T, x *Table, what string) {
	t.Helper()
	names := map[Number]int{1: 1}
	var gone func(n Number, deep int)
	gone = func(n Number, deep int) {
		d := x.Get(n)
		if deep > 16 || len(d.Names) > 32 {
			t.Fatalf("%s: %d is %d deep, has %d names", what, n, deep, len(d.Names))
		}
		for name, to := range d.Names {
			y := x.Get(to)
			if !Name(name) || y == nil || y.Kind == Dir && y.Parent != n {
				t.Fatalf("%s: %q of %d in %d: %s", what, name, to, n, asText(y))
			}
			names[to]++
			if y.Kind == Dir {
				gone(to, deep+1)
			}
		}
	}
	gone(1, 0)
	for _, n := range x.Numbers() {
		y := x.Get(n)
		if y.Number != n || y.Links != names[n] || y.Links == 0 && y.Held <= 0 || y.Held < 0 || y.Links > 256 || len(y.Data) > 1024 {
			t.Fatalf("%s: %d has %d names: %s", what, n, names[n], asText(y))
		}
		if y.Kind == Dir && y.Links > 1 || y.Kind != Dir && len(y.Names) > 0 || y.Links == 0 && len(y.Names) > 0 {
			t.Fatalf("%s: %s", what, asText(y))
		}
	}
	if root := x.Get(1); root == nil || root.Kind != Dir || root.Parent != 1 || root.Links != 1 {
		t.Fatalf("%s: the root: %s", what, asText(root))
	}
}

// both is a table, and the same told once more: each call is made of both.
type both struct {
	t    *testing.T
	x    *Table
	m    *told
	what string // the calls so far
}

func newBoth(t *testing.T, limit int) *both {
	return &both{t: t, x: New(limit), m: toldNew(limit)}
}

// same wants both to have answered the same, and to be the same now.
func (b *both) same(call string, got, want Number, e, f api.Errno) api.Errno {
	b.t.Helper()
	if e == f {
		call = fmt.Sprintf("%s: %d", call, e)
	}
	b.what += "; " + call
	if len(b.what) > 1200 {
		b.what = b.what[len(b.what)-1000:]
	}
	if got != want || e != f {
		b.t.Fatalf("%s: %d, %d, want %d, %d", b.what, got, e, want, f)
	}
	wantTold(b.t, b.x, b.m, b.what)
	wantWhole(b.t, b.x, b.what)
	return e
}

func (b *both) look(in Number, name string) api.Errno {
	b.t.Helper()
	n, e := b.x.Look(in, name)
	m, f := b.m.look(in, name)
	return b.same(fmt.Sprintf("Look(%d, %q)", in, name), n, m, e, f)
}

func (b *both) make(in Number, name string, k Kind, text string) Number {
	b.t.Helper()
	n, e := b.x.Make(in, name, k, text)
	m, f := b.m.make(in, name, k, text)
	b.same(fmt.Sprintf("Make(%d, %q, %d, %.20q)", in, name, k, text), n, m, e, f)
	return n
}

func (b *both) add(in Number, name string, n Number) api.Errno {
	b.t.Helper()
	return b.same(fmt.Sprintf("Add(%d, %q, %d)", in, name, n), 0, 0, b.x.Add(in, name, n), b.m.add(in, name, n))
}

func (b *both) drop(in Number, name string, dir bool) api.Errno {
	b.t.Helper()
	return b.same(fmt.Sprintf("Drop(%d, %q, %v)", in, name, dir), 0, 0, b.x.Drop(in, name, dir), b.m.drop(in, name, dir))
}

func (b *both) move(from Number, name string, to Number, other string) api.Errno {
	b.t.Helper()
	return b.same(fmt.Sprintf("Move(%d, %q, %d, %q)", from, name, to, other), 0, 0, b.x.Move(from, name, to, other), b.m.move(from, name, to, other))
}

func (b *both) hold(n Number, more bool) api.Errno {
	b.t.Helper()
	return b.same(fmt.Sprintf("Hold(%d, %v)", n, more), 0, 0, b.x.Hold(n, more), b.m.hold(n, more))
}

// write wants, too, that what is handed in isn't changed, spare room included, nor kept.
func (b *both) write(n Number, at int, data []byte) api.Errno {
	b.t.Helper()
	in := append(append(make([]byte, 0, len(data)+8), data...), "spare"...)
	was := bytes.Clone(in)
	e := b.x.Write(n, at, in[:len(data)])
	if !bytes.Equal(in, was) {
		b.t.Fatalf("Write changed what was handed in: %q", in)
	}
	clear(in[:cap(in)])
	return b.same(fmt.Sprintf("Write(%d, %d, %.20q)", n, at, data), 0, 0, e, b.m.write(n, at, data))
}

func (b *both) cut(n Number, size int) api.Errno {
	b.t.Helper()
	return b.same(fmt.Sprintf("Cut(%d, %d)", n, size), 0, 0, b.x.Cut(n, size), b.m.cut(n, size))
}

// chance makes calls by chance.
type chance struct {
	*both
	r     *rand.Rand
	names []string // those that are asked for
}

// one of a list.
func one[T any](r *rand.Rand, l ...T) T { return l[r.Intn(len(l))] }

// name: mostly one that may be, now and then one that may not.
func (c *chance) name() string {
	if c.r.Intn(12) == 0 {
		return one(c.r, "", ".", "..", "a/b", "#", "a b", "fourteen-bytes-", "ä", "\x7f")
	}
	return one(c.r, c.names...)
}

// number: mostly one that there is.
func (c *chance) number() Number {
	if c.r.Intn(12) == 0 {
		return Number(c.r.Intn(c.m.limit + 3))
	}
	return one(c.r, c.m.numbers()...)
}

// dir: mostly a directory, now and then the root.
func (c *chance) dir() Number {
	for range c.r.Intn(8) {
		if n := c.number(); c.m.isDir(n) == 0 {
			return n
		}
	}
	return c.number()
}

// spot: mostly a name that there is.
func (c *chance) spot() (Number, string) {
	if len(c.m.names) > 0 && c.r.Intn(6) > 0 {
		x := one(c.r, c.m.names...)
		return x.in, x.name
	}
	return c.dir(), c.name()
}

// made: a new one, mostly of a kind that there is.
func (c *chance) made() {
	text := one(c.r, "", "t", "/a/b", string(make([]byte, 120)), string(make([]byte, 121)))
	c.make(c.dir(), c.name(), one[Kind](c.r, 1, 2, 2, 2, 3, Kind(c.r.Intn(6))), text)
}

// moved: a name is another one, often one that there is.
func (c *chance) moved() {
	from, name := c.spot()
	to, other := c.dir(), c.name()
	if c.r.Intn(3) == 0 {
		to, other = c.spot()
	}
	c.move(from, name, to, other)
}

// size: a number at which a file's size may turn.
func (c *chance) size() int {
	return one(c.r, c.r.Intn(12), c.r.Intn(12), c.r.Intn(1100), 1023, 1024, 1025, -1, 0)
}

// call makes one.
func (c *chance) call() {
	in, name := c.spot()
	switch c.r.Intn(14) {
	case 0, 1, 2, 3:
		c.made()
	case 4, 5:
		c.add(c.dir(), c.name(), c.number())
	case 6, 7:
		c.drop(in, name, c.r.Intn(2) == 0)
	case 8, 9, 10:
		c.moved()
	case 11:
		c.hold(c.number(), c.r.Intn(2) == 0)
	case 12:
		c.write(c.number(), c.size(), bytes.Repeat([]byte("wxyz")[c.r.Intn(4):][:1], one(c.r, 0, 1, 5, 1020)))
	case 13:
		c.cut(c.number(), c.size())
		c.look(in, name)
	}
}
