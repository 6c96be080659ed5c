package walk

import (
	"fmt"
	"math"
	"math/rand"
	"slices"
	"strings"
	"testing"

	"pinfold/api"
	"pinfold/inode"
	"pinfold/mount"
)

// told is a tree as it is, in which ways are told once more. The document's numbers are written out, lest a constant that was changed change what it is held against.
type told struct {
	nodes  map[inode.Number]inode.Node
	mounts []mount.Mount
}

func toldOf(x *Tree) told {
	m := told{nodes: map[inode.Number]inode.Node{}, mounts: x.Mounts.List()}
	for _, n := range x.Inodes.Numbers() {
		m.nodes[n] = *x.Inodes.Get(n)
	}
	return m
}

func (m told) seen(p mount.Place) mount.Place {
	for _, x := range m.mounts {
		if x.Id != 0 && x.At == p {
			return m.seen(mount.Place{Mount: x.Id, Inode: x.Root})
		}
	}
	return p
}

func (m told) down(p mount.Place) (mount.Place, bool) {
	for _, x := range m.mounts {
		if x.Id != 0 && x.Id == p.Mount && x.Root == p.Inode {
			return x.At, true
		}
	}
	return mount.Place{}, false
}

func (m told) is(n inode.Number) bool {
	_, ok := m.nodes[n]
	return ok
}

func (m told) dir(p mount.Place) bool {
	there := slices.ContainsFunc(m.mounts, func(x mount.Mount) bool { return x.Id == p.Mount })
	return there && m.nodes[p.Inode].Kind == 2
}

func (m told) up(p mount.Place) mount.Place {
	if !m.dir(p) {
		return mount.Place{Mount: 0, Inode: 1}
	}
	return m.upDown(p)
}

func (m told) upDown(p mount.Place) mount.Place {
	if q, ok := m.down(p); ok {
		return m.upDown(q)
	}
	if !m.is(p.Inode) {
		return mount.Place{Mount: 0, Inode: 1}
	}
	return m.seen(mount.Place{Mount: p.Mount, Inode: m.nodes[p.Inode].Parent})
}

// toldParts goes over a path byte by byte.
func toldParts(path string) []string {
	var l []string
	part := ""
	for i := 0; i <= len(path); i++ {
		if i < len(path) && path[i] != '/' {
			part += path[i : i+1]
			continue
		}
		if part != "" && part != "." {
			l = append(l, part)
		}
		part = ""
	}
	return l
}

// toldEnd is where a way ends, and in which directory that was found, by which name.
type toldEnd struct {
	at, in mount.Place
	name   string
}

func (m told) from(cwd mount.Place, path string) toldEnd {
	if len(path) > 0 && path[0] == '/' {
		return toldEnd{at: m.seen(mount.Place{Mount: 0, Inode: 1})}
	}
	return toldEnd{at: cwd}
}

func (m told) way(w toldEnd, l []string, follow bool, links int) (toldEnd, api.Errno) {
	if len(l) == 0 {
		return w, 0
	}
	if !m.dir(w.at) {
		return toldEnd{}, 20
	}
	first, rest := l[0], l[1:]
	if first == ".." {
		p := m.up(w.at)
		if m.is(p.Inode) && !m.dir(p) {
			return toldEnd{}, 2
		}
		return m.way(toldEnd{at: p}, rest, follow, links)
	}
	if len(first) >= 15 {
		return toldEnd{}, 36
	}
	n, ok := m.nodes[w.at.Inode].Names[first]
	if !ok {
		return toldEnd{}, 2
	}
	x := m.nodes[n]
	if x.Kind == 3 && (follow || len(rest) != 0) {
		if links == 8 {
			return toldEnd{}, 40
		}
		return m.way(m.from(w.at, x.Text), slices.Concat(toldParts(x.Text), rest), follow, links+1)
	}
	next := toldEnd{at: mount.Place{Mount: w.at.Mount, Inode: n}, in: w.at, name: first}
	if x.Kind == 2 {
		next.at = m.seen(next.at)
	}
	return m.way(next, rest, follow, links)
}

func (m told) find(cwd mount.Place, path string, follow bool) (toldEnd, api.Errno) {
	if path == "" {
		return toldEnd{}, 2
	}
	if len(path) >= 121 {
		return toldEnd{}, 36
	}
	slash := path[len(path)-1] == '/'
	w, e := m.way(m.from(cwd, path), toldParts(path), follow || slash, 0)
	if e == 0 && !m.is(w.at.Inode) {
		e = 2
	}
	if e == 0 && slash && !m.dir(w.at) {
		e = 20
	}
	if e != 0 {
		return toldEnd{}, e
	}
	return w, 0
}

func (m told) last(cwd mount.Place, path string) (mount.Place, string, api.Errno) {
	if path == "" {
		return mount.Place{}, "", 2
	}
	if len(path) >= 121 {
		return mount.Place{}, "", 36
	}
	l := toldParts(path)
	if len(l) == 0 || l[len(l)-1] == ".." {
		return mount.Place{}, "", 16
	}
	name := l[len(l)-1]
	w, e := m.way(m.from(cwd, path), l[:len(l)-1], true, 0)
	if e != 0 {
		return mount.Place{}, "", e
	}
	if !m.dir(w.at) {
		return mount.Place{}, "", 20
	}
	if len(name) >= 15 {
		return mount.Place{}, "", 36
	}
	if !inode.Name(name) {
		return mount.Place{}, "", 22
	}
	return w.at, name, 0
}

func (m told) above(p mount.Place) []mount.Place {
	if !m.dir(p) {
		return nil
	}
	return m.aboveDown(p)
}

func (m told) aboveDown(p mount.Place) []mount.Place {
	l := []mount.Place{p}
	if q, ok := m.down(p); ok {
		return append(l, m.aboveDown(q)...)
	}
	if n := m.nodes[p.Inode].Parent; n != p.Inode && m.is(n) {
		return append(l, m.aboveDown(mount.Place{Mount: p.Mount, Inode: n})...)
	}
	return l
}

// called: a directory's name, wherever it has one.
func (m told) called(n inode.Number) (string, bool) {
	for _, x := range m.nodes {
		for name, is := range x.Names {
			if is == n {
				return name, true
			}
		}
	}
	return "", false
}

func (m told) path(p mount.Place) (string, bool) {
	l := m.above(p)
	if len(l) == 0 || l[len(l)-1] != (mount.Place{Mount: 0, Inode: 1}) {
		return "", false
	}
	path := ""
	for _, q := range l[:len(l)-1] {
		if _, root := m.down(q); root {
			continue
		}
		name, ok := m.called(q.Inode)
		if !ok {
			return "", false
		}
		path = "/" + name + path
	}
	if path == "" {
		return "/", true
	}
	return path, true
}

func (m told) real(cwd mount.Place, path string) (string, api.Errno) {
	w, e := m.find(cwd, path, true)
	if e != 0 {
		return "", e
	}
	if m.dir(w.at) {
		if path, ok := m.path(w.at); ok {
			return path, 0
		}
		return "", 2
	}
	in, ok := m.path(w.in)
	if !ok {
		return "", 2
	}
	if in == "/" {
		in = ""
	}
	return in + "/" + w.name, 0
}

// places: all of all mounts and inodes, and some that there aren't.
func (m told) places() []mount.Place {
	ids := []int{-1, 99, math.MinInt, math.MaxInt}
	for _, x := range m.mounts {
		ids = append(ids, x.Id)
	}
	inodes := []inode.Number{0, 200, math.MaxUint16}
	for n := range m.nodes {
		inodes = append(inodes, n)
	}
	slices.Sort(inodes)
	var l []mount.Place
	for _, id := range ids {
		for _, n := range inodes {
			l = append(l, mount.Place{Mount: id, Inode: n})
		}
	}
	return l
}

// wantPlaces wants what a tree says of all places to be as it is told.
func wantPlaces(t *testing.T, x *Tree, what string) {
	t.Helper()
	m := toldOf(x)
	for _, p := range m.places() {
		if got, want := x.Dir(p), m.dir(p); got != want {
			t.Fatalf("%s: Dir(%v): %v", what, p, got)
		}
		if got, want := x.Up(p), m.up(p); got != want {
			t.Fatalf("%s: Up(%v): %v, want %v", what, p, got, want)
		}
		if got, want := x.Above(p), m.above(p); !slices.Equal(got, want) {
			t.Fatalf("%s: Above(%v): %v, want %v", what, p, got, want)
		}
		got, ok := x.Path(p)
		if want, is := m.path(p); got != want || ok != is {
			t.Fatalf("%s: Path(%v): %q, %v, want %q, %v", what, p, got, ok, want, is)
		}
	}
}

// errs is how often each call had which error.
type errs map[string]map[int]int

func (s errs) add(call string, e api.Errno) {
	if s[call] == nil {
		s[call] = map[int]int{}
	}
	s[call][int(e)]++
}

// wantPath wants what a tree says of a path to be as it is told.
func wantPath(t *testing.T, x *Tree, m told, cwd mount.Place, path string, seen errs, what string) {
	t.Helper()
	for _, follow := range []bool{true, false} {
		got, e := x.Find(cwd, path, follow)
		want, f := m.find(cwd, path, follow)
		if got != want.at || e != f {
			t.Fatalf("%s: Find(%v, %q, %v): %v, %d, want %v, %d", what, cwd, path, follow, got, e, want.at, f)
		}
		seen.add("Find", e)
	}
	got, name, e := x.Last(cwd, path)
	want, other, f := m.last(cwd, path)
	if got != want || name != other || e != f {
		t.Fatalf("%s: Last(%v, %q): %v, %q, %d, want %v, %q, %d", what, cwd, path, got, name, e, want, other, f)
	}
	seen.add("Last", e)
	real, e := x.Real(cwd, path)
	if want, f := m.real(cwd, path); real != want || e != f {
		t.Fatalf("%s: Real(%v, %q): %q, %d, want %q, %d", what, cwd, path, real, e, want, f)
	}
	seen.add("Real", e)
}

// state is all of a tree.
func state(x *Tree) string {
	text := fmt.Sprint(x.Inodes.Changes(), x.Mounts.List())
	for _, n := range x.Inodes.Numbers() {
		text += fmt.Sprintf("\n%+v", *x.Inodes.Get(n))
	}
	return text
}

// chance makes trees and paths by chance.
type chance struct {
	*Tree
	r *rand.Rand
}

// one of a list.
func one[T any](r *rand.Rand, l []T) T { return l[r.Intn(len(l))] }

func (c *chance) name() string { return one(c.r, []string{"a", "b", "c", "d"}) }

// number: an inode's that is there.
func (c *chance) number() inode.Number { return one(c.r, c.Inodes.Numbers()) }

// dir: a directory's that is there.
func (c *chance) dir() inode.Number {
	return one(c.r, slices.DeleteFunc(c.Inodes.Numbers(), func(n inode.Number) bool { return c.Inodes.Get(n).Kind != inode.Dir }))
}

// mount: a mount that is there.
func (c *chance) mount() mount.Mount { return one(c.r, c.Mounts.List()) }

// place: mostly a directory's, or a mount's root.
func (c *chance) place() mount.Place {
	m := c.mount()
	switch c.r.Intn(5) {
	case 0, 1:
		return mount.Place{Mount: m.Id, Inode: m.Root}
	case 2:
		return mount.Place{Mount: m.Id, Inode: c.number()}
	default:
		return mount.Place{Mount: m.Id, Inode: c.dir()}
	}
}

// path: one of a few parts; sometimes with a / ahead, or behind, sometimes with parts that are empty, dots, too long, or no names.
func (c *chance) path() string {
	var l []string
	for range 1 + c.r.Intn(6) {
		switch c.r.Intn(20) {
		case 0:
			l = append(l, one(c.r, []string{"", ".", "...", "#", " ", "ä", strings.Repeat("a", 14), strings.Repeat("a", 15)}))
		case 1, 2:
			l = append(l, "..")
		default:
			l = append(l, c.name())
		}
	}
	text := strings.Join(l, "/")
	if c.r.Intn(3) == 0 {
		text = "/" + text
	}
	if c.r.Intn(5) == 0 {
		text += "/"
	}
	return text
}

// change: one call that changes a tree, maybe. Directories that are removed are held, some of them, and so are some of what has them.
func (c *chance) change() {
	switch c.r.Intn(12) {
	case 0, 1, 2:
		c.Inodes.Make(c.dir(), c.name(), inode.Dir, "")
	case 3:
		c.Inodes.Make(c.dir(), c.name(), inode.File, "")
	case 4, 5:
		c.Inodes.Make(c.dir(), c.name(), inode.Link, c.path())
	case 6:
		c.Inodes.Add(c.dir(), c.name(), c.number())
	case 7:
		c.Inodes.Move(c.dir(), c.name(), c.dir(), c.name())
	case 8:
		c.remove()
	case 9, 10:
		c.Mounts.Bind(c.dir(), mount.Place{Mount: c.mount().Id, Inode: c.dir()})
	case 11:
		m := c.mount()
		c.Mounts.Drop(mount.Place{Mount: m.Id, Inode: m.Root})
	}
}

// remove: a name is gone; what it was of is held, sometimes, then or until then.
func (c *chance) remove() {
	in, name := c.dir(), c.name()
	n, e := c.Inodes.Look(in, name)
	if e != api.OK {
		return
	}
	x := c.Inodes.Get(n)
	if x.Held == 0 && c.r.Intn(3) > 0 {
		c.Inodes.Hold(n, true)
	}
	c.Inodes.Drop(in, name, x.Kind == inode.Dir)
	if n = c.number(); c.r.Intn(4) == 0 {
		c.Inodes.Hold(n, false)
	}
}
