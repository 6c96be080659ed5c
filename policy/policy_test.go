package policy

import (
	"fmt"
	"math"
	"math/rand"
	"regexp"
	"slices"
	"strings"
	"sync"
	"testing"

	"pinfold/api"
	"pinfold/names"
	"pinfold/record"
	"pinfold/right"
)

// The errors that the chapter speaks of, as numbers.
const (
	errNoCall = 38
	errNil    = 201
	errWord   = 202
	errForm   = 203
	errRange  = 204
	errMany   = 205
	errTwice  = 206
	errKind   = 210
)

// toldCalls is the calls' names, written out.
var toldCalls = map[uint32]string{
	0: "read", 1: "write", 2: "open", 3: "close", 4: "stat", 8: "seek", 32: "dup", 39: "pid", 41: "socket", 42: "connect",
	49: "bind", 50: "listen", 57: "fork", 60: "exit", 77: "truncate", 78: "readdir", 79: "cwd", 80: "chdir", 82: "rename", 83: "mkdir",
	84: "rmdir", 86: "link", 87: "unlink", 88: "symlink", 89: "readlink", 157: "prctl", 165: "mount", 166: "umount", 317: "seccomp", 446: "restrict",
}

// toldSigns is the ways' signs, by their numbers.
var toldSigns = []string{"?", "==", "!=", "<", "<=", ">", ">=", "&"}

// toldRights is the rights' names, by their bits.
var toldRights = map[int]string{
	0: "exec", 1: "write", 2: "read", 3: "list", 4: "rmdir", 5: "rmfile", 6: "mkdir", 7: "mkfile", 8: "mklink", 9: "refer", 10: "truncate", 14: "bind", 15: "connect",
}

const (
	toldPaths = 0x07ff
	toldPorts = 0xc000
)

var (
	toldWord = regexp.MustCompile(`\A[a-z][a-z0-9_-]{0,13}\z`)
	toldPart = regexp.MustCompile(`\A[!"$-.0-~]{1,14}\z`)
)

// toldCond: a condition's error, told from the chapter's words anew.
func toldCond(c Cond) api.Errno {
	if c.Arg < 0 || c.Arg > 5 {
		return errRange
	}
	if c.Op == 0 || c.Op > 7 {
		return errKind
	}
	if c.Op < 7 {
		if c.Mask != 0 {
			return errForm
		}
		return 0
	}
	if c.Mask == 0 || c.Value|c.Mask != c.Mask {
		return errRange
	}
	return 0
}

// toldAction: may an action be said?
func toldAction(a record.Action) bool {
	return a == 0x80000000 || a == 0x7ffc0000 || a == 0x7fff0000 || a >= 0x00050001 && a <= 0x00050fff
}

// toldRule: a rule's error.
func toldRule(r Rule) api.Errno {
	if toldCalls[r.Number] == "" {
		return errNoCall
	}
	if !toldAction(r.Action) {
		return errKind
	}
	if len(r.Conds) > 6 {
		return errMany
	}
	for _, c := range r.Conds {
		if e := toldCond(c); e != 0 {
			return e
		}
	}
	return 0
}

// toldPath: may a text be a path?
func toldPath(s string) bool {
	if s == "/" {
		return true
	}
	if s == "" || s[0] != '/' || len(s) > 120 {
		return false
	}
	for _, part := range strings.Split(s[1:], "/") {
		if !toldPart.MatchString(part) || part == "." || part == ".." {
			return false
		}
	}
	return true
}

// toldGrant: may such rights be granted, of those that are handled, to a thing that has so many kinds of them?
func toldGrant(rights, handled, fit right.Set) bool {
	return rights > 0 && rights&handled&fit == rights
}

// toldCheck: a policy's error.
func toldCheck(p Policy) api.Errno {
	if !toldWord.MatchString(p.Name) {
		return errWord
	}
	if !toldAction(p.Default) {
		return errKind
	}
	if len(p.Rules) > 64 || len(p.Paths) > 32 || len(p.Ports) > 32 {
		return errMany
	}
	if p.Handled&0x3800 != 0 {
		return errRange
	}
	for _, r := range p.Rules {
		if e := toldRule(r); e != 0 {
			return e
		}
	}
	paths := map[string]bool{}
	for _, b := range p.Paths {
		if !toldPath(b.Path) {
			return errForm
		}
		if !toldGrant(b.Rights, p.Handled, toldPaths) {
			return errRange
		}
		if paths[b.Path] {
			return errTwice
		}
		paths[b.Path] = true
	}
	ports := map[uint16]bool{}
	for _, q := range p.Ports {
		if !toldGrant(q.Rights, p.Handled, toldPorts) {
			return errRange
		}
		if ports[q.Number] {
			return errTwice
		}
		ports[q.Number] = true
	}
	return 0
}

func toldSign(o Op) string {
	if int(o) < len(toldSigns) {
		return toldSigns[o]
	}
	return "?"
}

func toldCondText(c Cond) string {
	arg := c.Arg
	if arg < 0 {
		arg = 0
	}
	if c.Op == 7 {
		return fmt.Sprintf("arg%d & %d == %d", arg, c.Mask, c.Value)
	}
	return fmt.Sprintf("arg%d %s %d", arg, toldSign(c.Op), c.Value)
}

func toldActionText(a record.Action) string {
	switch a >> 16 {
	case 5:
		return fmt.Sprintf("errno %d", a&0xffff)
	case 0x7ffc:
		return "log"
	case 0x7fff:
		return "allow"
	}
	return "kill"
}

func toldRightsText(s right.Set) string {
	var l []string
	for bit := range 16 {
		if s>>bit&1 == 1 && toldRights[bit] != "" {
			l = append(l, toldRights[bit])
		}
	}
	if l == nil {
		return "-"
	}
	return strings.Join(l, ",")
}

// toldText: a policy's text; with calls, or without any.
func toldText(p Policy, calls bool) string {
	s := fmt.Sprintf("policy %s\ndefault %s\n", p.Name, toldActionText(p.Default))
	for _, r := range p.Rules {
		name := toldCalls[r.Number]
		if name == "" || !calls {
			name = fmt.Sprint(r.Number)
		}
		s += fmt.Sprintf("call %s %s", name, toldActionText(r.Action))
		for i, c := range r.Conds {
			if i == 0 {
				s += " if "
			} else {
				s += " and "
			}
			s += toldCondText(c)
		}
		s += "\n"
	}
	if p.Handled != 0 {
		s += "handle " + toldRightsText(p.Handled) + "\n"
	}
	for _, b := range p.Paths {
		s += "beneath " + b.Path + " " + toldRightsText(b.Rights) + "\n"
	}
	for _, q := range p.Ports {
		s += fmt.Sprintf("port %d %s\n", q.Number, toldRightsText(q.Rights))
	}
	return s
}

func wantCond(t *testing.T, c Cond, want api.Errno) {
	t.Helper()
	if got := c.Check(); got != want {
		t.Errorf("Check of %+v: %d, want %d", c, got, want)
	}
}

func wantRule(t *testing.T, r Rule, want api.Errno) {
	t.Helper()
	if got := r.Check(names.New()); got != want {
		t.Errorf("Check of %+v: %d, want %d", r, got, want)
	}
}

func wantPath(t *testing.T, s string, want bool) {
	t.Helper()
	if got := Path(s); got != want {
		t.Errorf("Path of %.200q (%d bytes): %v", s, len(s), got)
	}
}

func wantCheck(t *testing.T, p Policy, want api.Errno) {
	t.Helper()
	if got := p.Check(names.New()); got != want {
		t.Errorf("Check of %.400q: %d, want %d", fmt.Sprintf("%+v", p), got, want)
	}
}

func wantText(t *testing.T, p Policy, want string) {
	t.Helper()
	if got := p.Text(names.New()); got != want {
		t.Errorf("Text of %.400q: %.400q, want %.400q", fmt.Sprintf("%+v", p), got, want)
	}
}

// wantSame holds two policies against each other both ways.
func wantSame(t *testing.T, a, b Policy, want bool) {
	t.Helper()
	if Same(a, b) != want || Same(b, a) != want {
		t.Errorf("Same of %.300q and %.300q: %v, %v; want %v", fmt.Sprintf("%+v", a), fmt.Sprintf("%+v", b), Same(a, b), Same(b, a), want)
	}
}

// whole is a policy that has everything, and may be.
func whole() Policy {
	return Policy{
		Name:    "whole",
		Default: record.Fail(13),
		Rules: []Rule{
			{Number: names.Open, Action: record.Allow},
			{Number: names.Open, Action: record.Kill, Conds: []Cond{{Arg: 1, Op: Masked, Mask: 6, Value: 2}, {Arg: 0, Op: Ge, Value: 7}}},
			{Number: names.Restrict, Action: record.Log, Conds: []Cond{{Arg: 5, Op: Ne, Value: math.MaxUint64}}},
		},
		Handled: right.Read | right.Write | right.Bind | right.Connect,
		Paths:   []Beneath{{"/", right.Read}, {"/a/b", right.Read | right.Write}},
		Ports:   []Port{{0, right.Bind}, {65535, right.Bind | right.Connect}},
	}
}

// many is a list of so many things, all alike.
func many[T any](n int, x T) []T { return slices.Repeat([]T{x}, n) }

// manyPaths is so many paths, no two the same.
func manyPaths(n int, s right.Set) []Beneath {
	var l []Beneath
	for i := range n {
		l = append(l, Beneath{fmt.Sprintf("/p%d", i), s})
	}
	return l
}

// manyPorts is so many ports, no two the same.
func manyPorts(n int, s right.Set) []Port {
	var l []Port
	for i := range n {
		l = append(l, Port{uint16(i), s})
	}
	return l
}

// P9.1: a condition's, each error, and what is just within.
func TestCondCheck(t *testing.T) {
	for arg := range 6 {
		wantCond(t, Cond{Arg: arg, Op: Eq, Value: 7}, 0)
		wantCond(t, Cond{Arg: arg, Op: Masked, Mask: 7, Value: 7}, 0)
	}
	for _, arg := range []int{-1, 6, 7, 255, 256, -256, 1 << 32, math.MaxInt, math.MinInt} {
		wantCond(t, Cond{Arg: arg, Op: Eq}, errRange)
	}
	for _, op := range []Op{Eq, Ne, Lt, Le, Gt, Ge} {
		wantCond(t, Cond{Op: op}, 0)
		wantCond(t, Cond{Op: op, Value: math.MaxUint64}, 0)
		wantCond(t, Cond{Op: op, Mask: 1}, errForm)
		wantCond(t, Cond{Op: op, Mask: math.MaxUint64, Value: math.MaxUint64}, errForm)
	}
	for _, op := range []Op{0, 8, 9, 128, 255} {
		wantCond(t, Cond{Op: op}, errKind)
	}
	wantCond(t, Cond{Op: Masked, Mask: 1}, 0)
	wantCond(t, Cond{Op: Masked, Mask: 1 << 63, Value: 1 << 63}, 0)
	wantCond(t, Cond{Op: Masked, Mask: math.MaxUint64, Value: 12345}, 0)
	wantCond(t, Cond{Op: Masked}, errRange)
	wantCond(t, Cond{Op: Masked, Value: 1}, errRange)
	wantCond(t, Cond{Op: Masked, Mask: 2, Value: 1}, errRange)
	wantCond(t, Cond{Op: Masked, Mask: 2, Value: 3}, errRange)
	wantCond(t, Cond{Op: Masked, Mask: math.MaxUint32, Value: 1 << 32}, errRange)
	wantCond(t, Cond{Op: Masked, Mask: math.MaxUint64 >> 1, Value: math.MaxUint64}, errRange)
}

// P9.1, R2: a condition's errors, the first first, over all ways and numbers at which it turns.
func TestCondCheckAll(t *testing.T) {
	args := []int{math.MinInt, -1, 0, 1, 2, 3, 4, 5, 6, math.MaxInt}
	numbers := []uint64{0, 1, 2, 3, 1 << 31, 1 << 32, 1 << 63, math.MaxUint64 - 1, math.MaxUint64}
	for op := range 256 {
		for _, arg := range args {
			for _, mask := range numbers {
				for _, value := range numbers {
					c := Cond{arg, Op(op), mask, value}
					wantCond(t, c, toldCond(c))
				}
			}
		}
	}
}

// P9.1: of a rule's calls those that there are.
func TestRuleCheckCalls(t *testing.T) {
	x := names.New()
	for n := range uint32(70000) {
		want := api.Errno(errNoCall)
		if toldCalls[n] != "" {
			want = 0
		}
		if got := (Rule{Number: n, Action: record.Allow}).Check(x); got != want {
			t.Errorf("call %d: %d", n, got)
		}
	}
	for _, n := range []uint32{1 << 16, 1<<16 + 2, 1 << 31, 1<<31 + 2, math.MaxUint32} {
		wantRule(t, Rule{Number: n, Action: record.Allow}, errNoCall)
	}
}

// P9.1: of a rule's actions, and of a policy's default, just those four kinds, whole.
func TestActions(t *testing.T) {
	x := names.New()
	hold := func(a record.Action) {
		want := api.Errno(errKind)
		if toldAction(a) {
			want = 0
		}
		if got := (Rule{Action: a}).Check(x); got != want {
			t.Errorf("a rule of %#x: %d", uint32(a), got)
		}
		if got := (Policy{Name: "p", Default: a}).Check(x); got != want {
			t.Errorf("a default of %#x: %d", uint32(a), got)
		}
	}
	for _, high := range []record.Action{0, 0x00040000, 0x00050000, 0x00060000, 0x7ff00000, 0x7ffc0000, 0x7ffd0000, 0x7fff0000, 0x80000000, 0x80010000, 0x80050000, 0xffff0000} {
		for low := range record.Action(1 << 16) {
			hold(high | low)
		}
	}
	for high := range record.Action(1 << 16) {
		for _, low := range []record.Action{0, 1, 13, 4095, 4096} {
			hold(high<<16 | low)
		}
	}
	for _, e := range []api.Errno{1, 4095} {
		wantRule(t, Rule{Action: record.Fail(e)}, 0)
	}
	wantRule(t, Rule{Action: record.Fail(0)}, errKind)
	wantRule(t, Rule{Action: record.Errno + 4096}, errKind)
	wantRule(t, Rule{Action: record.Kill + 1}, errKind)
}

// P9.1: six conditions, not seven; the first one that is wrong.
func TestRuleCheckConds(t *testing.T) {
	good, form, kind := Cond{Op: Eq}, Cond{Op: Eq, Mask: 1}, Cond{}
	for n := range 7 {
		wantRule(t, Rule{Action: record.Kill, Conds: many(n, good)}, 0)
	}
	for _, n := range []int{7, 8, 100} {
		wantRule(t, Rule{Action: record.Kill, Conds: many(n, good)}, errMany)
	}
	for at := range 6 {
		l := many(6, good)
		l[at] = form
		wantRule(t, Rule{Action: record.Kill, Conds: l}, errForm)
	}
	wantRule(t, Rule{Action: record.Kill, Conds: []Cond{good, form, kind}}, errForm)
	wantRule(t, Rule{Action: record.Kill, Conds: []Cond{good, kind, form}}, errKind)
	wantRule(t, Rule{Action: record.Kill, Conds: []Cond{{Arg: 6}, form}}, errRange)
}

// R2: a rule's errors, the first first.
func TestRuleCheckOrder(t *testing.T) {
	r := Rule{Number: 5, Action: 7, Conds: many(7, Cond{})}
	wantRule(t, r, errNoCall)
	r.Number = names.Open
	wantRule(t, r, errKind)
	r.Action = record.Log
	wantRule(t, r, errMany)
	r.Conds = r.Conds[:6]
	wantRule(t, r, errKind)
	r.Action = 7
	r.Conds = []Cond{{Arg: 6}}
	wantRule(t, r, errKind)
	r.Action = record.Log
	wantRule(t, r, errRange)
}

// P9.1: paths, each way in which one is none.
func TestPath(t *testing.T) {
	for _, s := range []string{"/", "/a", "/a/b", "/...", "/.a", "/..a", "/a.", "/a..", "/a/.b", "/-", "/~", "/!", "/\"", "/A/B/9", "/a/a/a", "/12345678901234", "/a/12345678901234/b"} {
		wantPath(t, s, true)
	}
	for _, s := range []string{"", "a", "a/b", "//", "///", "/a/", "/a//b", "//a", "/a/b//", "/.", "/..", "/./a", "/../a", "/a/.", "/a/..", "/a/./b", "/a/../b", "./a", " /a", "/a ", "/a b", "/a\n", "/\x00", "/\t", "/a#", "/#", "/\x7f", "/\x80", "/ä", "\\a", "/123456789012345", "/a/123456789012345/b", "/a/123456789012345"} {
		wantPath(t, s, false)
	}
}

// P9.1: each byte, alone in a part, and behind others; each byte ahead of all.
func TestPathBytes(t *testing.T) {
	for c := range 256 {
		b := string([]byte{byte(c)})
		printable := c >= 33 && c <= 126 && c != '#'
		wantPath(t, "/"+b, printable && b != "/" && b != ".")
		wantPath(t, "/x"+b+"y", printable)
		wantPath(t, "/x"+b, printable && b != "/")
		wantPath(t, "/u/x"+b, printable && b != "/")
		wantPath(t, b, b == "/")
		wantPath(t, b+"a", b == "/")
		wantPath(t, b+"/a", false)
	}
}

// P9.1: at most 120 bytes in all, and fourteen of a part.
func TestPathLengths(t *testing.T) {
	for n := range 300 {
		s := strings.Repeat("/123456789", 40)[:n]
		wantPath(t, s, n > 0 && n <= 120 && (s == "/" || s[n-1] != '/'))
		wantPath(t, "/"+strings.Repeat("x", n), n <= 14)
		wantPath(t, "/a/"+strings.Repeat("x", n)+"/b", n >= 1 && n <= 14)
	}
	wantPath(t, strings.Repeat("/12345678901234", 8), true)
	wantPath(t, strings.Repeat("/x", 60), true)
	wantPath(t, strings.Repeat("/x", 60)+"y", false)
	wantPath(t, strings.Repeat("/x", 1<<20), false)
	wantPath(t, strings.Repeat("/", 1<<20), false)
}

// P9.1: all texts of up to seven bytes of those at which a path turns.
func TestPathAll(t *testing.T) {
	var hold func(s string, left int)
	hold = func(s string, left int) {
		wantPath(t, s, toldPath(s))
		if left == 0 {
			return
		}
		for _, c := range "/.a# " {
			hold(s+string(c), left-1)
		}
	}
	hold("", 7)
}

// P9.1: each error of a policy, in one that else may be.
func TestCheck(t *testing.T) {
	wantCheck(t, whole(), 0)
	wantCheck(t, Policy{Name: "p", Default: record.Allow}, 0)
	wantCheck(t, Policy{Name: "p", Default: record.Kill, Rules: []Rule{}, Paths: []Beneath{}, Ports: []Port{}}, 0)
	for _, name := range []string{"", "9", "P", "-a", "a,b", "a b", "123456789012345", "a23456789012345", "pä", "a\n"} {
		p := whole()
		p.Name = name
		wantCheck(t, p, errWord)
	}
	for _, name := range []string{"a", "a-b_9", "a2345678901234"} {
		p := whole()
		p.Name = name
		wantCheck(t, p, 0)
	}
	for _, a := range []record.Action{0, record.Errno, record.Errno + 4096, record.Kill + 1, record.Allow + 1, record.Log + 1} {
		p := whole()
		p.Default = a
		wantCheck(t, p, errKind)
		p = whole()
		p.Rules[2].Action = a
		wantCheck(t, p, errKind)
	}
	for bit := range 16 {
		p := whole()
		p.Handled |= 1 << bit
		if toldRights[bit] == "" {
			wantCheck(t, p, errRange)
		} else {
			wantCheck(t, p, 0)
		}
	}
}

// P9.1: just ErrNil without calls; R7.
func TestCheckWithoutCalls(t *testing.T) {
	for _, p := range []Policy{whole(), {}, {Name: "p", Default: record.Allow}} {
		if got := p.Check(nil); got != errNil {
			t.Errorf("without calls: %d", got)
		}
	}
	for _, r := range []Rule{{}, whole().Rules[0], {Action: 7, Conds: many(7, Cond{})}} {
		if got := r.Check(nil); got != errNoCall {
			t.Errorf("a rule without calls: %d", got)
		}
	}
}

// P9.1: as many rules, paths, ports as may be, and one beside.
func TestCheckMany(t *testing.T) {
	for _, n := range []int{0, 1, 63, 64, 65, 66, 1000} {
		p := whole()
		p.Rules = many(n, Rule{Action: record.Allow})
		if n <= 64 {
			wantCheck(t, p, 0)
		} else {
			wantCheck(t, p, errMany)
		}
	}
	for _, n := range []int{0, 1, 31, 32, 33, 34, 1000} {
		want := api.Errno(0)
		if n > 32 {
			want = errMany
		}
		p := whole()
		p.Paths = manyPaths(n, right.Read)
		wantCheck(t, p, want)
		p = whole()
		p.Ports = manyPorts(n, right.Bind)
		wantCheck(t, p, want)
	}
	p := whole()
	p.Rules, p.Paths, p.Ports = many(64, p.Rules[1]), manyPaths(32, right.Write), manyPorts(32, right.Connect)
	wantCheck(t, p, 0)
}

// P9.1: what a policy's paths may be granted, all sets of rights.
func TestCheckPaths(t *testing.T) {
	x := names.New()
	for _, handled := range []right.Set{0, right.Read, right.Read | right.Write, toldPaths, toldPorts, toldPaths | toldPorts} {
		for s := range 1 << 16 {
			p := Policy{Name: "p", Default: record.Allow, Handled: handled, Paths: []Beneath{{"/a", right.Set(s)}}}
			want := api.Errno(errRange)
			if toldGrant(right.Set(s), handled, toldPaths) {
				want = 0
			}
			if got := p.Check(x); got != want {
				t.Fatalf("beneath /a %#x of %#x: %d", s, handled, got)
			}
		}
	}
	for _, path := range []string{"", "a", "/a/", "/..", "/a b", strings.Repeat("/1234567", 16)} {
		p := whole()
		p.Paths = append(p.Paths, Beneath{path, right.Read})
		wantCheck(t, p, errForm)
		p.Paths[2].Rights = right.Set(0) // ErrForm stands ahead of ErrRange
		wantCheck(t, p, errForm)
	}
	for at := range 2 {
		p := whole()
		p.Paths = append(p.Paths, Beneath{p.Paths[at].Path, right.Write})
		wantCheck(t, p, errTwice)
		p.Paths[2].Rights = right.List // ErrRange ahead of ErrTwice
		wantCheck(t, p, errRange)
	}
	p := whole()
	p.Paths = []Beneath{{"/a", right.Read}, {"/a", right.Read}, {"a", right.Read}} // path by path
	wantCheck(t, p, errTwice)
	p.Paths = []Beneath{{"/a", right.Read}, {"a", right.Read}, {"/a", right.Read}}
	wantCheck(t, p, errForm)
	p.Paths = []Beneath{{"/a", right.Read}, {"/b", right.Exec}, {"/a", right.Read}}
	wantCheck(t, p, errRange)
	p.Paths = []Beneath{{"/a", right.Read}, {"/A", right.Read}, {"/a/a", right.Read}, {"/", right.Read}}
	wantCheck(t, p, 0)
	p.Paths = manyPaths(32, right.Read)
	p.Paths[31].Path = p.Paths[0].Path
	wantCheck(t, p, errTwice)
	p.Paths[31].Path = p.Paths[30].Path
	wantCheck(t, p, errTwice)
}

// P9.1: what a policy's ports may be granted, all sets of rights; all ports.
func TestCheckPorts(t *testing.T) {
	x := names.New()
	for _, handled := range []right.Set{0, right.Bind, right.Connect, toldPaths, toldPorts, toldPaths | toldPorts} {
		for s := range 1 << 16 {
			p := Policy{Name: "p", Default: record.Allow, Handled: handled, Ports: []Port{{80, right.Set(s)}}}
			want := api.Errno(errRange)
			if toldGrant(right.Set(s), handled, toldPorts) {
				want = 0
			}
			if got := p.Check(x); got != want {
				t.Fatalf("port 80 %#x of %#x: %d", s, handled, got)
			}
		}
	}
	for n := range 1 << 16 {
		p := Policy{Name: "p", Default: record.Allow, Handled: right.Bind, Ports: []Port{{uint16(n), right.Bind}}}
		if got := p.Check(x); got != 0 {
			t.Fatalf("port %d: %d", n, got)
		}
	}
	for at := range 2 {
		p := whole()
		p.Ports = append(p.Ports, Port{p.Ports[at].Number, right.Bind})
		wantCheck(t, p, errTwice)
		p.Ports[2].Rights = right.Read // ErrRange ahead of ErrTwice
		wantCheck(t, p, errRange)
	}
	p := whole()
	p.Ports = []Port{{1, right.Bind}, {1, right.Bind}, {2, 0}} // port by port
	wantCheck(t, p, errTwice)
	p.Ports = []Port{{1, right.Bind}, {2, 0}, {1, right.Bind}}
	wantCheck(t, p, errRange)
	p.Ports = manyPorts(32, right.Connect)
	p.Ports[31].Number = 0
	wantCheck(t, p, errTwice)
	p.Ports[31].Number = 30
	wantCheck(t, p, errTwice)
}

// R2: a policy's errors, the first first: each is mended, then the next one is told.
func TestCheckOrder(t *testing.T) {
	p := Policy{
		Default: 7,
		Rules:   many(65, Rule{Number: 5, Action: record.Allow}),
		Handled: 1 << 11,
		Paths:   many(33, Beneath{}),
		Ports:   many(33, Port{}),
	}
	wantCheck(t, p, errWord)
	p.Name = "p"
	wantCheck(t, p, errKind)
	p.Default = record.Allow
	wantCheck(t, p, errMany)
	p.Rules = p.Rules[:64]
	wantCheck(t, p, errMany)
	p.Paths = p.Paths[:32]
	wantCheck(t, p, errMany)
	p.Ports = p.Ports[:32]
	wantCheck(t, p, errRange)
	p.Handled = 0
	wantCheck(t, p, errNoCall)
	p.Rules = []Rule{{Action: record.Allow, Conds: []Cond{{Op: Eq, Arg: -1}}}, {Number: 5, Action: record.Allow}}
	wantCheck(t, p, errRange)
	p.Rules = p.Rules[1:]
	wantCheck(t, p, errNoCall)
	p.Rules = nil
	wantCheck(t, p, errForm)
	p.Paths = []Beneath{{"/", 0}}
	p.Ports = []Port{{}, {}}
	wantCheck(t, p, errRange)
	p.Handled = right.Read | right.Bind
	p.Paths = []Beneath{{"/", right.Read}, {"/", right.Read}}
	wantCheck(t, p, errTwice)
	p.Paths = p.Paths[1:]
	wantCheck(t, p, errRange)
	p.Ports = []Port{{7, right.Bind}, {7, right.Bind}}
	wantCheck(t, p, errTwice)
	p.Ports = p.Ports[1:]
	wantCheck(t, p, 0)
}

// R2: a port's error isn't told ahead of a path's, nor a path's ahead of a rule's.
func TestCheckRulePathPort(t *testing.T) {
	rule, path, port := Rule{Number: 5}, Beneath{Path: "a"}, Port{}
	p := whole()
	p.Ports = append(p.Ports, port)
	wantCheck(t, p, errRange)
	p.Paths = append(p.Paths, path)
	wantCheck(t, p, errForm)
	p.Rules = append(p.Rules, rule)
	wantCheck(t, p, errNoCall)
	p.Rules = append([]Rule{{Action: record.Log, Conds: many(7, Cond{})}}, p.Rules...)
	wantCheck(t, p, errMany)
}

// P9.2: Clone is the same, whichever lists it has; R5.
func TestClone(t *testing.T) {
	for _, p := range []Policy{{}, whole(), {Name: "p", Rules: []Rule{}, Paths: []Beneath{}, Ports: []Port{}}, {Rules: []Rule{{}, {Conds: []Cond{}}}}, {Name: "\xff", Default: 7, Handled: 1 << 11, Paths: []Beneath{{"x", 9}}}} {
		c := p.Clone()
		wantSame(t, p, c, true)
		if c.Text(names.New()) != p.Text(names.New()) {
			t.Errorf("Clone of %+v: %+v", p, c)
		}
	}
}

// P9.2, R6: a clone and what it was made of share nothing, nor do two of its lists.
func TestCloneApart(t *testing.T) {
	p := whole()
	p.Rules = append(p.Rules, Rule{Action: record.Kill, Conds: p.Rules[1].Conds}) // two rules that share their conditions
	was := p.Text(names.New())
	c := p.Clone()
	spoil(c)
	if p.Text(names.New()) != was {
		t.Errorf("what was cloned changed with its clone: %s", p.Text(names.New()))
	}
	c = p.Clone()
	spoil(p)
	if c.Text(names.New()) != was {
		t.Errorf("a clone changed with what it was made of: %s", c.Text(names.New()))
	}
	c.Rules[1].Conds[0].Arg = 3
	if c.Rules[3].Conds[0].Arg == 3 {
		t.Error("two lists of a clone are one")
	}
}

// spoil changes all that stands in a policy's lists, and their spare room.
func spoil(p Policy) {
	for i := range p.Rules {
		for j := range p.Rules[i].Conds[:cap(p.Rules[i].Conds)] {
			p.Rules[i].Conds[:cap(p.Rules[i].Conds)][j] = Cond{Arg: 4, Op: Lt, Value: 99}
		}
	}
	for i := range p.Rules[:cap(p.Rules)] {
		p.Rules[:cap(p.Rules)][i] = Rule{Number: 60, Action: record.Log}
	}
	for i := range p.Paths[:cap(p.Paths)] {
		p.Paths[:cap(p.Paths)][i] = Beneath{"/spoilt", right.Exec}
	}
	for i := range p.Ports[:cap(p.Ports)] {
		p.Ports[:cap(p.Ports)][i] = Port{9, right.Connect}
	}
}

// changes is a policy that differs from whole in one thing, each.
func changes() []Policy {
	var all []Policy
	for _, change := range []func(p *Policy){
		func(p *Policy) { p.Name = "wholf" },
		func(p *Policy) { p.Name = "" },
		func(p *Policy) { p.Default = record.Fail(14) },
		func(p *Policy) { p.Default = record.Kill },
		func(p *Policy) { p.Handled |= right.List },
		func(p *Policy) { p.Handled = 0 },
		func(p *Policy) { p.Rules = nil },
		func(p *Policy) { p.Rules = p.Rules[:2] },
		func(p *Policy) { p.Rules = p.Rules[1:] },
		func(p *Policy) { p.Rules = append(p.Rules, Rule{}) },
		func(p *Policy) { p.Rules[0], p.Rules[1] = p.Rules[1], p.Rules[0] },
		func(p *Policy) { p.Rules[0].Number++ },
		func(p *Policy) { p.Rules[2].Number |= 1 << 31 },
		func(p *Policy) { p.Rules[0].Action = record.Log },
		func(p *Policy) { p.Rules[2].Action++ },
		func(p *Policy) { p.Rules[0].Conds = []Cond{{}} },
		func(p *Policy) { p.Rules[1].Conds = nil },
		func(p *Policy) { p.Rules[1].Conds = p.Rules[1].Conds[:1] },
		func(p *Policy) { p.Rules[1].Conds = p.Rules[1].Conds[1:] },
		func(p *Policy) {
			p.Rules[1].Conds[0], p.Rules[1].Conds[1] = p.Rules[1].Conds[1], p.Rules[1].Conds[0]
		},
		func(p *Policy) { p.Rules[1].Conds[0].Arg = 2 },
		func(p *Policy) { p.Rules[1].Conds[1].Arg = -1 },
		func(p *Policy) { p.Rules[1].Conds[1].Op = Gt },
		func(p *Policy) { p.Rules[1].Conds[0].Mask = 7 },
		func(p *Policy) { p.Rules[1].Conds[1].Mask = 7 },
		func(p *Policy) { p.Rules[1].Conds[0].Value = 4 },
		func(p *Policy) { p.Rules[2].Conds[0].Value-- },
		func(p *Policy) { p.Paths = nil },
		func(p *Policy) { p.Paths = p.Paths[:1] },
		func(p *Policy) { p.Paths = append(p.Paths, Beneath{}) },
		func(p *Policy) { p.Paths[0], p.Paths[1] = p.Paths[1], p.Paths[0] },
		func(p *Policy) { p.Paths[1].Path = "/a/c" },
		func(p *Policy) { p.Paths[1].Rights = right.Write },
		func(p *Policy) { p.Ports = nil },
		func(p *Policy) { p.Ports = p.Ports[1:] },
		func(p *Policy) { p.Ports = append(p.Ports, Port{}) },
		func(p *Policy) { p.Ports[0], p.Ports[1] = p.Ports[1], p.Ports[0] },
		func(p *Policy) { p.Ports[0].Number = 1 },
		func(p *Policy) { p.Ports[1].Rights = right.Bind },
	} {
		p := whole()
		change(&p)
		all = append(all, p)
	}
	return all
}

// P9.2: policies are the same if all of their things are, in their order.
func TestSame(t *testing.T) {
	wantSame(t, whole(), whole(), true)
	wantSame(t, Policy{}, Policy{}, true)
	all := changes()
	for i, p := range all {
		wantSame(t, whole(), p, false)
		wantSame(t, p, p, true)
		for _, q := range all[:i] {
			wantSame(t, p, q, false)
		}
	}
}

// R5: lists that are empty are the same as those that are nil.
func TestSameEmpty(t *testing.T) {
	p := Policy{Rules: []Rule{}, Paths: []Beneath{}, Ports: []Port{}}
	wantSame(t, Policy{}, p, true)
	wantSame(t, Policy{Rules: []Rule{{Conds: []Cond{}}}}, Policy{Rules: []Rule{{}}}, true)
	wantSame(t, Policy{Rules: []Rule{{Conds: []Cond{}}}}, Policy{}, false)
}

// P9.2: all signs.
func TestSign(t *testing.T) {
	for o := range 256 {
		if got, want := Op(o).Sign(), toldSign(Op(o)); got != want {
			t.Errorf("Sign of %d: %q, want %q", o, got, want)
		}
	}
	if Eq.Sign() != "==" || Ne.Sign() != "!=" || Lt.Sign() != "<" || Le.Sign() != "<=" || Gt.Sign() != ">" || Ge.Sign() != ">=" || Masked.Sign() != "&" {
		t.Error("a way and its sign")
	}
}

// P9.2: conditions' texts, those that may not be, too.
func TestCondText(t *testing.T) {
	for _, x := range []struct {
		c    Cond
		want string
	}{
		{Cond{Arg: 1, Op: Masked, Mask: 2, Value: 2}, "arg1 & 2 == 2"},
		{Cond{Arg: 0, Op: Eq, Value: 0}, "arg0 == 0"},
		{Cond{Arg: 5, Op: Ne, Value: math.MaxUint64}, "arg5 != 18446744073709551615"},
		{Cond{Arg: 2, Op: Lt, Value: 1 << 63}, "arg2 < 9223372036854775808"},
		{Cond{Arg: 3, Op: Le, Mask: 9, Value: 10}, "arg3 <= 10"},
		{Cond{Arg: 4, Op: Gt, Value: 1 << 32}, "arg4 > 4294967296"},
		{Cond{Arg: 4, Op: Ge, Value: 7}, "arg4 >= 7"},
		{Cond{Arg: 6, Op: Ge, Value: 7}, "arg6 >= 7"},
		{Cond{Arg: -1, Op: Ge, Value: 7}, "arg0 >= 7"},
		{Cond{Arg: math.MinInt, Op: 0, Mask: 3, Value: 7}, "arg0 ? 7"},
		{Cond{Arg: math.MaxInt, Op: 8, Mask: 3, Value: 7}, "arg9223372036854775807 ? 7"},
		{Cond{Op: Masked}, "arg0 & 0 == 0"},
		{Cond{Op: Masked, Mask: math.MaxUint64, Value: math.MaxUint64}, "arg0 & 18446744073709551615 == 18446744073709551615"},
		{Cond{}, "arg0 ? 0"},
	} {
		if got := x.c.Text(); got != x.want || got != toldCondText(x.c) {
			t.Errorf("Text of %+v: %q, want %q", x.c, got, x.want)
		}
	}
}

// P9.2: actions' texts: by their kinds, an errno's number beside it.
func TestActionText(t *testing.T) {
	for _, x := range []struct {
		a    record.Action
		want string
	}{
		{record.Kill, "kill"}, {record.Log, "log"}, {record.Allow, "allow"}, {record.Fail(13), "errno 13"}, {record.Fail(1), "errno 1"},
		{record.Fail(4095), "errno 4095"}, {record.Errno, "errno 0"}, {record.Errno + 65535, "errno 65535"},
		{record.Kill + 1, "kill"}, {record.Log + 7, "log"}, {record.Allow + 65535, "allow"}, {0, "kill"}, {0x00060001, "kill"}, {math.MaxUint32, "kill"},
	} {
		if got := ActionText(x.a); got != x.want {
			t.Errorf("ActionText of %#x: %q, want %q", uint32(x.a), got, x.want)
		}
	}
	for high := range record.Action(1 << 16) {
		for _, low := range []record.Action{0, 1, 4096, 65535} {
			if a := high<<16 | low; ActionText(a) != toldActionText(a) {
				t.Errorf("ActionText of %#x: %q, want %q", uint32(a), ActionText(a), toldActionText(a))
			}
		}
	}
}

// P9.2: policies' texts, those that may not be, too.
func TestText(t *testing.T) {
	wantText(t, Policy{Name: "p", Default: record.Allow}, "policy p\ndefault allow\n")
	wantText(t, Policy{}, "policy \ndefault kill\n")
	wantText(t, Policy{Name: "p", Default: record.Allow, Rules: []Rule{{Number: 2, Action: record.Fail(13), Conds: []Cond{{1, Masked, 2, 2}}}}}, "policy p\ndefault allow\ncall open errno 13 if arg1 & 2 == 2\n")
	wantText(t, whole(), "policy whole\ndefault errno 13\ncall open allow\ncall open kill if arg1 & 6 == 2 and arg0 >= 7\ncall restrict log if arg5 != 18446744073709551615\n"+
		"handle write,read,bind,connect\nbeneath / read\nbeneath /a/b write,read\nport 0 bind\nport 65535 bind,connect\n")
	wantText(t, Policy{Name: "p", Default: record.Log, Rules: []Rule{{Number: 5, Action: record.Log, Conds: many(3, Cond{Op: Eq})}, {Number: math.MaxUint32}}},
		"policy p\ndefault log\ncall 5 log if arg0 == 0 and arg0 == 0 and arg0 == 0\ncall 4294967295 kill\n")
	wantText(t, Policy{Name: "p", Handled: right.List, Paths: []Beneath{{"x y", 0}, {"", right.List}}, Ports: []Port{{80, 0}}},
		"policy p\ndefault kill\nhandle list\nbeneath x y -\nbeneath  list\nport 80 -\n")
	wantText(t, Policy{Name: "p", Handled: 1 << 11, Ports: []Port{{9, 1 << 13}}}, "policy p\ndefault kill\nhandle -\nport 9 -\n")
	wantText(t, Policy{Name: "p", Paths: []Beneath{{"/", right.Read}}}, "policy p\ndefault kill\nbeneath / read\n")
	for n := range uint32(500) {
		p := Policy{Rules: []Rule{{Number: n}}}
		wantText(t, p, toldText(p, true))
	}
}

// P9.2, R7: without calls each call is told by its number.
func TestTextWithoutCalls(t *testing.T) {
	if got := whole().Text(nil); got != toldText(whole(), false) || !strings.Contains(got, "call 2 allow\n") {
		t.Errorf("without calls: %q", got)
	}
}

// P9.2: of all that there is, more than may be, too, a line each.
func TestTextMany(t *testing.T) {
	p := whole()
	p.Rules, p.Paths, p.Ports = many(70, Rule{Action: record.Kill, Conds: many(9, Cond{Op: Masked})}), manyPaths(40, right.Read), manyPorts(50, 0)
	wantText(t, p, toldText(p, true))
	if n := strings.Count(p.Text(names.New()), "\n"); n != 2+70+1+40+50 {
		t.Errorf("%d lines", n)
	}
}

// oneOf picks one of a few.
func oneOf[T any](r *rand.Rand, few ...T) T { return few[r.Intn(len(few))] }

// by chance: a policy whose things mostly may be.
func chance(r *rand.Rand) Policy {
	p := Policy{
		Name:    oneOf(r, "p", "a-1_b", "a2345678901234"),
		Default: chanceAction(r),
		Handled: right.Set(r.Intn(1<<16)) &^ 0x3800,
	}
	if r.Intn(40) == 0 {
		p.Name = oneOf(r, "", "P", "a23456789012345")
	}
	if r.Intn(40) == 0 {
		p.Handled |= 1 << (11 + r.Intn(3))
	}
	for range howMany(r, 64) {
		p.Rules = append(p.Rules, chanceRule(r))
	}
	for range howMany(r, 32) {
		p.Paths = append(p.Paths, Beneath{chancePath(r), chanceRights(r, p.Handled, toldPaths)})
	}
	for range howMany(r, 32) {
		p.Ports = append(p.Ports, Port{uint16(oneOf(r, r.Intn(4), r.Intn(1<<16), r.Intn(1<<16), r.Intn(1<<16))), chanceRights(r, p.Handled, toldPorts)})
	}
	return p
}

// howMany: mostly few; now and then as many as may be, or one more.
func howMany(r *rand.Rand, most int) int {
	if r.Intn(40) == 0 {
		return most + r.Intn(2)
	}
	return r.Intn(5)
}

func chanceAction(r *rand.Rand) record.Action {
	if r.Intn(60) == 0 {
		return oneOf(r, record.Errno, record.Errno+4096, record.Kill+1, 0)
	}
	return oneOf(r, record.Kill, record.Log, record.Allow, record.Fail(api.Errno(1+r.Intn(4095))))
}

func chanceRule(r *rand.Rand) Rule {
	x := Rule{Number: oneOf[uint32](r, 0, 2, 57, 446), Action: chanceAction(r)}
	if r.Intn(60) == 0 {
		x.Number = uint32(r.Intn(500))
	}
	for range oneOf(r, 0, 0, 0, 1, 2, 6) {
		x.Conds = append(x.Conds, chanceCond(r))
	}
	if r.Intn(60) == 0 {
		x.Conds = many(7, Cond{})
	}
	return x
}

func chanceCond(r *rand.Rand) Cond {
	if r.Intn(60) == 0 {
		return Cond{r.Intn(8) - 1, Op(r.Intn(9)), uint64(r.Intn(3)), uint64(r.Intn(3))}
	}
	c := Cond{Arg: r.Intn(6), Op: Op(1 + r.Intn(7)), Value: r.Uint64() >> r.Intn(64)}
	if c.Op == Masked {
		c.Mask = c.Value | 1<<r.Intn(64)
	}
	return c
}

func chancePath(r *rand.Rand) string {
	if r.Intn(60) == 0 {
		return oneOf(r, "", "a", "/a/", "//", "/..", "/a#", "/123456789012345")
	}
	s := ""
	for range 1 + r.Intn(4) {
		s += "/" + oneOf(r, "a", "b", "c.d", "...", "E-f", "12345678901234")
	}
	return s
}

func chanceRights(r *rand.Rand, handled, fit right.Set) right.Set {
	s := right.Set(r.Intn(1<<16)) & handled & fit
	if s == 0 || r.Intn(60) == 0 {
		return right.Set(r.Intn(1 << 16))
	}
	return s
}

// P9.1, P9.2, R6, R8: policies by chance, held against what the chapter's words tell; none is changed by being asked, and each answer comes twice.
func TestChance(t *testing.T) {
	r := rand.New(rand.NewSource(9))
	x := names.New()
	seen := map[api.Errno]int{}
	for range 8000 {
		p := chance(r)
		was, want := fmt.Sprintf("%#v", p), toldCheck(p)
		seen[want]++
		for range 2 {
			if got := p.Check(x); got != want {
				t.Fatalf("Check of %+v: %d, want %d", p, got, want)
			}
			if got := p.Text(x); got != toldText(p, true) {
				t.Fatalf("Text of %+v: %s", p, got)
			}
		}
		c := p.Clone()
		if !Same(p, c) || fmt.Sprintf("%#v", c) != was || fmt.Sprintf("%#v", p) != was {
			t.Fatalf("Clone of %s: %+v, %+v", was, c, p)
		}
		if q := chance(r); Same(p, q) != (toldText(p, false) == toldText(q, false) && fmt.Sprintf("%#v", p) == fmt.Sprintf("%#v", q)) {
			t.Fatalf("Same of %+v and %+v", p, q)
		}
	}
	for _, e := range []api.Errno{0, errNoCall, errWord, errForm, errRange, errMany, errTwice, errKind} {
		if seen[e] < 20 {
			t.Errorf("just %d by chance of which %d is told", seen[e], e)
		}
	}
}

// P9.1: paths by chance, of bytes that mostly may be in one.
func TestPathChance(t *testing.T) {
	r := rand.New(rand.NewSource(91))
	var may, not int
	for range 100000 {
		s := ""
		for range r.Intn(12) {
			s += "/" + strings.Repeat(oneOf(r, ".", "a", "b", "~"), oneOf(r, 0, 1, 1, 1, 2, 3, 13, 14, 14, 15)) + oneOf(r, "", "", "", "", "", "c", "#", " ", "\x7f", "\n", "é")
		}
		if toldPath(s) {
			may++
		} else {
			not++
		}
		wantPath(t, s, toldPath(s))
	}
	if may < 1000 || not < 1000 {
		t.Errorf("%d that may be, %d that may not", may, not)
	}
}

// R6: what is handed in isn't changed, spare room included.
func TestUnchanged(t *testing.T) {
	p := whole()
	spare := append(p.Rules, Rule{Number: 77}, Rule{Number: 78})
	p.Rules = spare[:3]
	more := append(p.Paths, Beneath{"/spare", 1})
	p.Paths = more[:2]
	conds := append(p.Rules[1].Conds, Cond{Arg: 77})
	p.Rules[1].Conds = conds[:2]
	x := names.New()
	p.Check(x)
	p.Text(x)
	p.Clone()
	Same(p, whole())
	if spare[3].Number != 77 || spare[4].Number != 78 || more[2].Path != "/spare" || conds[2].Arg != 77 {
		t.Error("spare room was changed")
	}
	wantSame(t, p, whole(), true)
}

// R8: one policy and one table, asked by many at once.
func TestAtOnce(t *testing.T) {
	p, x := whole(), names.New()
	want := toldText(p, true)
	var all sync.WaitGroup
	for range 16 {
		all.Go(func() {
			for range 100 {
				if p.Check(x) != 0 || p.Text(x) != want || !Same(p.Clone(), p) {
					t.Error("another answer, asked at once")
				}
			}
		})
	}
	all.Wait()
}

// P1: none panics, whatever it is given.
func TestNoPanic(t *testing.T) {
	for _, x := range []*names.Table{nil, {}, names.New()} {
		for _, p := range append(changes(), Policy{}, Policy{Rules: make([]Rule, 1000), Paths: make([]Beneath, 1000), Ports: make([]Port, 1000)}) {
			p.Check(x)
			p.Text(x)
			Same(p.Clone(), p)
			for _, r := range p.Rules {
				r.Check(x)
			}
		}
	}
}
