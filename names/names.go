// Package names is layer 1: the calls there are, by numbers and by names: see shared/doc/01-names.md.
package names

import (
	"cmp"
	"slices"
	"sync"
	"sync/atomic"

	"pinfold/api"
)

// Call is one of the calls that a task may make: its number, its name, how many arguments it has.
type Call struct {
	Number uint32
	Name   string
	Args   int
}

// The calls' numbers.
const (
	Read     = 0
	Write    = 1
	Open     = 2
	Close    = 3
	Stat     = 4
	Seek     = 8
	Dup      = 32
	Pid      = 39
	Socket   = 41
	Connect  = 42
	Bind     = 49
	Listen   = 50
	Fork     = 57
	Exit     = 60
	Truncate = 77
	ReadDir  = 78
	Cwd      = 79
	Chdir    = 80
	Rename   = 82
	Mkdir    = 83
	Rmdir    = 84
	Link     = 86
	Unlink   = 87
	Symlink  = 88
	ReadLink = 89
	Prctl    = 157
	Mount    = 165
	Umount   = 166
	Seccomp  = 317
	Restrict = 446
)

// calls is what the table is made from: a new list each time, so that nobody can change what another one is made from.
func calls() []Call {
	return []Call{
		{Read, "read", 2},
		{Write, "write", 2},
		{Open, "open", 2},
		{Close, "close", 1},
		{Stat, "stat", 1},
		{Seek, "seek", 2},
		{Dup, "dup", 1},
		{Pid, "pid", 0},
		{Socket, "socket", 0},
		{Connect, "connect", 2},
		{Bind, "bind", 2},
		{Listen, "listen", 1},
		{Fork, "fork", 0},
		{Exit, "exit", 1},
		{Truncate, "truncate", 2},
		{ReadDir, "readdir", 1},
		{Cwd, "cwd", 0},
		{Chdir, "chdir", 1},
		{Rename, "rename", 2},
		{Mkdir, "mkdir", 1},
		{Rmdir, "rmdir", 1},
		{Link, "link", 2},
		{Unlink, "unlink", 1},
		{Symlink, "symlink", 2},
		{ReadLink, "readlink", 1},
		{Prctl, "prctl", 1},
		{Mount, "mount", 2},
		{Umount, "umount", 1},
		{Seccomp, "seccomp", 1},
		{Restrict, "restrict", 1},
	}
}

// Table is all calls, to be found by numbers and by names; it is made when it is asked first.
type Table struct {
	once        sync.Once
	asked, made atomic.Int64
	byName      map[string]Call
	byNumber    map[uint32]Call
}

// New: a table that isn't made yet.
func New() *Table { return &Table{} }

// fill makes the maps; nobody but once calls it.
func (t *Table) fill() {
	t.byName = map[string]Call{}
	t.byNumber = map[uint32]Call{}
	for _, c := range calls() {
		t.byName[c.Name] = c
		t.byNumber[c.Number] = c
	}
	t.made.Add(1)
}

// ask counts an asking only when the maps stand: else Counts could meanwhile tell of one that was asked and not made.
func (t *Table) ask() {
	t.once.Do(t.fill)
	t.asked.Add(1)
}

// Named: a call by its name; false: there is none.
func (t *Table) Named(s string) (Call, bool) {
	if t == nil {
		return Call{}, false
	}
	t.ask()
	c, ok := t.byName[s]
	return c, ok
}

// Numbered: a call by its number; false: there is none.
func (t *Table) Numbered(n uint32) (Call, bool) {
	if t == nil {
		return Call{}, false
	}
	t.ask()
	c, ok := t.byNumber[n]
	return c, ok
}

// All: every call, by their numbers.
func (t *Table) All() []Call {
	if t == nil {
		return nil
	}
	t.ask()
	all := make([]Call, 0, len(t.byNumber))
	for _, c := range t.byNumber {
		all = append(all, c)
	}
	slices.SortFunc(all, func(a, b Call) int { return cmp.Compare(a.Number, b.Number) })
	return all
}

// Counts: how often it was asked; how often it was made.
func (t *Table) Counts() (asked, made int64) {
	if t == nil {
		return 0, 0
	}
	asked = t.asked.Load()
	if asked == 0 { // one that is being made isn't told ahead of the asking that it is made for
		return 0, 0
	}
	return asked, t.made.Load()
}

// Word: may a text be a name: one to fourteen small letters, digits, - or _, the first a letter?
func Word(s string) bool {
	if s == "" || len(s) > api.MaxName {
		return false
	}
	for i, c := range s {
		if !letter(c) && (i == 0 || !behindLetter(c)) {
			return false
		}
	}
	return true
}

func letter(c rune) bool { return 'a' <= c && c <= 'z' }

// behindLetter: may it stand in a name, but not begin it?
func behindLetter(c rune) bool { return '0' <= c && c <= '9' || c == '-' || c == '_' }
