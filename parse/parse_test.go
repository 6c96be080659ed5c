package parse

import (
	"fmt"
	"math"
	"math/rand"
	"strings"
	"testing"

	"pinfold/api"
	"pinfold/lex"
	"pinfold/names"
	"pinfold/policy"
	"pinfold/record"
	"pinfold/right"
)

// The errors that the chapter speaks of, as numbers.
const (
	errLong   = 36
	errNoCall = 38
	errNil    = 201
	errWord   = 202
	errForm   = 203
	errRange  = 204
	errMany   = 205
	errTwice  = 206
)

// head is the lines that each text begins with, where a test asks of those behind them.
const head = "policy p\ndefault allow\n"

// toldCalls is the calls' numbers, written out.
var toldCalls = map[string]uint32{
	"read": 0, "write": 1, "open": 2, "close": 3, "stat": 4, "seek": 8, "dup": 32, "pid": 39, "socket": 41, "connect": 42,
	"bind": 49, "listen": 50, "fork": 57, "exit": 60, "truncate": 77, "readdir": 78, "cwd": 79, "chdir": 80, "rename": 82, "mkdir": 83,
	"rmdir": 84, "link": 86, "unlink": 87, "symlink": 88, "readlink": 89, "prctl": 157, "mount": 165, "umount": 166, "seccomp": 317, "restrict": 446,
}

// toldRights is the rights' bits, written out.
var toldRights = map[string]int{
	"exec": 0, "write": 1, "read": 2, "list": 3, "rmdir": 4, "rmfile": 5, "mkdir": 6, "mkfile": 7, "mklink": 8, "refer": 9, "truncate": 10, "bind": 14, "connect": 15,
}

const (
	toldPaths = 0x07ff
	toldPorts = 0xc000
)

var toldSigns = []string{"", "==", "!=", "<", "<=", ">", ">=", "&"}

// place cuts the mark ^ out of a text: the text, and the line and column of what stood behind the mark; 0 and 0 without one.
func place(s string) (text string, line, col int) {
	ahead, behind, ok := strings.Cut(s, "^")
	if !ok {
		return s, 0, 0
	}
	return ahead + behind, strings.Count(ahead, "\n") + 1, len(ahead) - strings.LastIndex(ahead, "\n")
}

// wantWrong: R3, too: beside an error there is no policy. The wrong word stands behind ^; nothing does behind the last line.
func wantWrong(t *testing.T, s string, want api.Errno) {
	t.Helper()
	text, line, col := place(s)
	if p, w := New().Parse(text); w != (lex.Wrong{Line: line, Col: col, Err: want}) || !zero(p) {
		t.Errorf("Parse of %.300q: %v, %.200q; want %d, %d, %d", text, told(w), fmt.Sprintf("%+v", p), line, col, want)
	}
}

// told: an error with its number. (Its text says nothing.)
func told(w lex.Wrong) string { return fmt.Sprintf("%d, %d, %d", w.Line, w.Col, int(w.Err)) }

// zero: is it the zero policy?
func zero(p policy.Policy) bool { return fmt.Sprintf("%#v", p) == fmt.Sprintf("%#v", policy.Policy{}) }

// wantPolicy: a text is that policy.
func wantPolicy(t *testing.T, s string, want policy.Policy) {
	t.Helper()
	if p, w := New().Parse(s); w != (lex.Wrong{}) || !policy.Same(p, want) {
		t.Errorf("Parse of %.300q: %v, %.400q; want %.400q", s, told(w), fmt.Sprintf("%+v", p), fmt.Sprintf("%+v", want))
	}
}

// with is the policy of head, and a change.
func with(change func(p *policy.Policy)) policy.Policy {
	p := policy.Policy{Name: "p", Default: record.Allow}
	change(&p)
	return p
}

// withRule is the policy of head, and a rule.
func withRule(x policy.Rule) policy.Policy {
	return with(func(p *policy.Policy) { p.Rules = []policy.Rule{x} })
}

// withCond is the policy of head, and a rule of a condition.
func withCond(c policy.Cond) policy.Policy {
	return withRule(policy.Rule{Number: names.Open, Action: record.Kill, Conds: []policy.Cond{c}})
}

// lines is so many lines, each made of its place.
func lines(n int, line func(i int) string) string {
	var b strings.Builder
	for i := range n {
		b.WriteString(line(i) + "\n")
	}
	return b.String()
}

// P10.1: the example, and a text that has everything.
func TestExamples(t *testing.T) {
	wantPolicy(t, "policy p\ndefault allow\ncall write kill\n", withRule(policy.Rule{Number: names.Write, Action: record.Kill}))
	wantPolicy(t, "policy whole\ndefault errno 13\ncall open allow\ncall open kill if arg1 & 6 == 2 and arg0 >= 7\ncall restrict log if arg5 != 18446744073709551615\n"+
		"handle write,read,bind,connect\nbeneath / read\nbeneath /a/b write,read\nport 0 bind\nport 65535 bind,connect\n", policy.Policy{
		Name:    "whole",
		Default: record.Fail(13),
		Rules: []policy.Rule{
			{Number: names.Open, Action: record.Allow},
			{Number: names.Open, Action: record.Kill, Conds: []policy.Cond{{Arg: 1, Op: policy.Masked, Mask: 6, Value: 2}, {Arg: 0, Op: policy.Ge, Value: 7}}},
			{Number: names.Restrict, Action: record.Log, Conds: []policy.Cond{{Arg: 5, Op: policy.Ne, Value: math.MaxUint64}}},
		},
		Handled: right.Read | right.Write | right.Bind | right.Connect,
		Paths:   []policy.Beneath{{Path: "/", Rights: right.Read}, {Path: "/a/b", Rights: right.Read | right.Write}},
		Ports:   []policy.Port{{Number: 0, Rights: right.Bind}, {Number: 65535, Rights: right.Bind | right.Connect}},
	})
}

// P10.1: as little as may be; what isn't told is zero.
func TestLeast(t *testing.T) {
	for _, s := range []string{head, "policy p\ndefault allow", "\n\n policy p # the name\n\t\n#\n default allow \r\n \n#", "policy\tp\r\ndefault\tallow\r\n"} {
		wantPolicy(t, s, with(func(*policy.Policy) {}))
	}
}

// P10.1: a policy's name is any names.Word, those words too that lines are made of.
func TestNames(t *testing.T) {
	for _, s := range []string{"a", "z9", "a-b_1", "a2345678901234", "policy", "default", "call", "if", "and", "kill", "errno", "arg0", "read"} {
		wantPolicy(t, "policy "+s+"\ndefault kill\n", policy.Policy{Name: s, Default: record.Kill})
	}
	wantWrong(t, "policy ^a23456789012345\ndefault allow\n", errWord)
	wantWrong(t, "policy ^"+strings.Repeat("a", 1000)+"\ndefault allow\n", errWord)
	wantWrong(t, "policy ^a,b\ndefault allow\n", errForm)
	wantWrong(t, "policy ^a23456789012345,b\ndefault allow\n", errForm)
	wantWrong(t, "policy ^a,\ndefault allow\n", errForm)
	wantWrong(t, "policy ^1\ndefault allow\n", errForm)
	wantWrong(t, "policy ^/a\ndefault allow\n", errForm)
	wantWrong(t, "policy ^==\ndefault allow\n", errForm)
	wantWrong(t, "policy^\ndefault allow\n", errForm)
	wantWrong(t, "policy ^P\ndefault allow\n", errWord) // lex's
}

// P10.1: the first line is policy's, the second default's; behind the last line what is wanting is at no place.
func TestHead(t *testing.T) {
	for _, s := range []string{"", "\n", " \t\r\n", "# policy p", "policy p", "policy p\n", "policy p\n# default allow\n"} {
		wantWrong(t, s, errForm)
	}
	for _, s := range []string{"default", "call", "policies", "polic", "policy,", "policy,p", "if", "1", "0x10", "/policy", "=="} {
		wantWrong(t, "^"+s+" p\ndefault allow\n", errForm)
		wantWrong(t, "\n ^"+s+"\n", errForm)
	}
	for _, s := range []string{"policy", "call", "handle", "defaults", "default,", "default,kill", "and", "7", "/default", "&"} {
		wantWrong(t, "policy p\n^"+s+" allow\n", errForm)
		wantWrong(t, "policy p\n\n#\n\t^"+s, errForm)
	}
	wantWrong(t, "policy p ^default allow\n", errForm)
	wantWrong(t, "policy p ^p\ndefault allow\n", errForm)
	wantWrong(t, "policy p ^1\ndefault allow\n", errForm)
	wantWrong(t, "policy p\ndefault^\n", errForm)
	wantWrong(t, "policy p\ndefault \t^", errForm)
	wantWrong(t, "policy p\ndefault ^# kill", errForm)
	wantWrong(t, "policy p\ndefault allow ^allow\n", errForm)
	wantWrong(t, "policy p\ndefault allow ^if arg0 == 1\n", errForm)
	wantWrong(t, "policy p\ndefault allow ^,\n", errWord) // lex's
}

// P10.1: behind these no other lines than the four, in any order.
func TestLines(t *testing.T) {
	for _, s := range []string{"policy", "default", "calls", "cal", "handles", "beneat", "ports", "if", "and", "read", "kill", "callcallcallcallcall"} {
		wantWrong(t, head+"^"+s+" p\n", errWord)
		wantWrong(t, head+"call open kill\n ^"+s+"\n", errWord)
	}
	for _, s := range []string{"call,", "call,handle", "handle,", "x,y", "1", "/call", "==", "&"} {
		wantWrong(t, head+"^"+s+" open kill\n", errForm)
	}
	for _, s := range []string{"call", "handle", "beneath", "port"} {
		wantWrong(t, head+s+"^\n", errForm)
		wantWrong(t, head+s+" ^# more", errForm)
		wantWrong(t, head+s+" \t\r^", errForm)
	}
	want := policy.Policy{
		Name: "p", Default: record.Allow,
		Rules:   []policy.Rule{{Number: names.Fork, Action: record.Kill}, {Number: names.Exit, Action: record.Log}, {Number: names.Fork, Action: record.Kill}},
		Handled: right.Exec | right.Bind,
		Paths:   []policy.Beneath{{Path: "/b", Rights: right.Exec}, {Path: "/a", Rights: right.Exec}},
		Ports:   []policy.Port{{Number: 9, Rights: right.Bind}, {Number: 8, Rights: right.Bind}},
	}
	wantPolicy(t, head+"handle bind,exec\nport 9 bind\ncall fork kill\nbeneath /b exec\ncall exit log\nport 8 bind\nbeneath /a exec\ncall fork kill\n", want)
	wantPolicy(t, head+"call fork kill\ncall exit log\n\nhandle exec,bind # these\ncall fork kill\nbeneath /b exec\nport 9 bind\nbeneath /a exec\nport 8 bind", want)
}

// P10.1: actions, of the default and of rules.
func TestActions(t *testing.T) {
	for s, a := range map[string]record.Action{
		"kill": 0x80000000, "log": 0x7ffc0000, "allow": 0x7fff0000, "errno 1": 0x00050001, "errno 13": 0x0005000d, "errno 4095": 0x00050fff, "errno 0xfff": 0x00050fff,
	} {
		wantPolicy(t, "policy p\ndefault "+s+"\n", policy.Policy{Name: "p", Default: a})
		wantPolicy(t, head+"call open "+s+"\n", withRule(policy.Rule{Number: 2, Action: a}))
		wantPolicy(t, head+"call open "+s+" if arg0 == 1\n", withRule(policy.Rule{Number: 2, Action: a, Conds: []policy.Cond{{Op: policy.Eq, Value: 1}}}))
	}
	for _, ahead := range []string{"policy p\ndefault ", head + "call open "} {
		for s, e := range map[string]api.Errno{
			"^deny": errWord, "^kil": errWord, "^kills": errWord, "^errn": errWord, "^if": errWord, "^aaaaaaaaaaaaaaaa": errWord, "^errno1": errWord,
			"^kill,": errForm, "^kill,log": errForm, "^13": errForm, "^/kill": errForm, "^<": errForm, "^": errForm,
			"errno^": errForm, "errno ^kill": errForm, "errno ^/1": errForm, "errno ^== 1": errForm, "^errno, 1": errForm,
			"errno ^0": errRange, "errno ^0x0": errRange, "errno ^4096": errRange, "errno ^65537": errRange, "errno ^4294967297": errRange, "errno ^9223372036854775809": errRange, "errno ^18446744073709551615": errRange,
			"errno ^18446744073709551616": errRange, "errno ^01": errRange, // lex's
			"errno 1 ^2": errForm, "kill ^13": errForm, "allow ^/": errForm, "log ^log": errForm,
		} {
			wantWrong(t, ahead+s+"\n", e)
		}
	}
}

// P10.1: errors' numbers, all that there are, and beyond.
func TestErrnos(t *testing.T) {
	x := New()
	for n := range 70000 {
		p, w := x.Parse(fmt.Sprintf("policy p\ndefault errno %d\n", n))
		if n >= 1 && n <= 4095 {
			if w != (lex.Wrong{}) || p.Default != record.Action(0x50000+n) {
				t.Errorf("errno %d: %v", n, told(w))
			}
		} else if w != (lex.Wrong{Line: 2, Col: 15, Err: errRange}) {
			t.Errorf("errno %d: %v", n, told(w))
		}
	}
}

// P10.1: calls, all that there are, and others.
func TestCalls(t *testing.T) {
	for s, n := range toldCalls {
		wantPolicy(t, head+"call "+s+" log\n", withRule(policy.Rule{Number: n, Action: record.Log}))
	}
	for _, s := range []string{"opens", "ope", "o", "kill", "call", "a23456789012345", strings.Repeat("open", 30)} {
		wantWrong(t, head+"call ^"+s+" kill\n", errNoCall)
		wantWrong(t, head+"call ^"+s, errNoCall)
	}
	for _, s := range []string{"open,read", "open,", "2", "0x2", "/open", "==", ""} {
		wantWrong(t, head+"call ^"+s+"\n", errForm)
	}
}

// P10.1: conditions: each argument, each sign, numbers of all sizes, blanks or none.
func TestConds(t *testing.T) {
	numbers := []uint64{0, 1, 2, 1 << 31, 1<<32 - 1, 1 << 32, 1 << 63, math.MaxUint64}
	for arg := range 6 {
		for op := policy.Eq; op < policy.Masked; op++ {
			for _, n := range numbers {
				want := withCond(policy.Cond{Arg: arg, Op: op, Value: n})
				wantPolicy(t, head+fmt.Sprintf("call open kill if arg%d %s %d\n", arg, toldSigns[op], n), want)
				wantPolicy(t, head+fmt.Sprintf("call open kill if arg%d%s%#x\n", arg, toldSigns[op], n), want)
			}
		}
		for _, mask := range numbers {
			for _, n := range numbers {
				if mask == 0 || n&^mask != 0 {
					wantWrong(t, head+fmt.Sprintf("call open kill if arg%d & %d == ^%d\n", arg, mask, n), errRange)
					continue
				}
				want := withCond(policy.Cond{Arg: arg, Op: policy.Masked, Mask: mask, Value: n})
				wantPolicy(t, head+fmt.Sprintf("call open kill if arg%d & %d == %d\n", arg, mask, n), want)
				wantPolicy(t, head+fmt.Sprintf("call open kill if arg%d&%#x==%#x\n", arg, mask, n), want)
			}
		}
	}
}

// P10.1: conditions that aren't right, word by word.
func TestCondsWrong(t *testing.T) {
	for s, e := range map[string]api.Errno{
		"^arg0 == 1": errForm, "^and arg0 == 1": errForm, "^iff arg0 == 1": errForm, "^if, arg0 == 1": errForm, "^kill": errForm, "^1": errForm, "^/if": errForm, "^==": errForm,
		"if^": errForm, "if ^0 == 1": errForm, "if ^/arg0 == 1": errForm, "if ^== 1": errForm, "if ^arg0, == 1": errForm, "if ^arg0,arg1 == 1": errForm,
		"if ^arg6 == 1": errWord, "if ^arg == 1": errWord, "if ^arg00 == 1": errWord, "if ^arg10 == 1": errWord, "if ^arg-1 == 1": errWord, "if ^arg01 == 1": errWord, "if ^ar == 1": errWord, "if ^if arg0 == 1": errWord,
		"if arg0^": errForm, "if arg0 ^1": errForm, "if arg0 ^arg1": errForm, "if arg0 ^/": errForm, "if arg0 ^eq 1": errForm,
		"if arg0 ^= 1": errWord, "if arg0 ^=! 1": errWord, "if arg0 ^&& 1": errWord, // lex's
		"if arg0 ==^": errForm, "if arg0 == ^arg1": errForm, "if arg0 == ^/1": errForm, "if arg0 == ^== 1": errForm,
		"if arg0 == ^18446744073709551616": errRange, "if arg0 == ^1a": errRange, // lex's
		"if arg0 &^": errForm, "if arg0 & ^x == 1": errForm, "if arg0 & ^/1 == 1": errForm, "if arg0 & ^== 1": errForm,
		"if arg0 & 1^": errForm, "if arg0 & 1 ^1": errForm, "if arg0 & 1 ^& 1": errForm, "if arg0 & 1 ^!= 1": errForm, "if arg0 & 1 ^<= 1": errForm, "if arg0 & 1 ^eq 1": errForm, "if arg0 & 1 ^/== 1": errForm,
		"if arg0 & 1 ==^": errForm, "if arg0 & 1 == ^x": errForm, "if arg0 & 0 == ^/1": errForm, "if arg0 & 1 == ^== 1": errForm,
		"if arg0 & 0 ==^": errForm, "if arg0 & 0 ^< 1": errForm, "if arg0 & 0 == ^0": errRange, "if arg0 & 0 == ^1": errRange, "if arg0 & 2 == ^1": errRange, "if arg0 & 2 == ^3": errRange, "if arg0 & 2 == ^4 foo": errRange,
		"if arg0 == 1 ^1": errForm, "if arg0 == 1 ^if arg0 == 1": errForm, "if arg0 == 1 ^or arg0 == 1": errForm, "if arg0 == 1 ^& 1": errForm, "if arg0 == 1 ^arg0 == 1": errForm, "if arg0 == 1 ^and, arg0 == 1": errForm, "if arg0 == 1 ^/": errForm,
		"if arg0 == 1 and^": errForm, "if arg0 == 1 and ^1 == 1": errForm, "if arg0 == 1 and ^and arg0 == 1": errWord, "if arg0 == 1 and ^arg9 == 1": errWord, "if arg0 == 1 and arg5 & 1 == ^2": errRange,
		"if arg0 == 1 and arg1 == 2 ^if arg0 == 1": errForm, "if arg0 & 3 == 1 ^== 1": errForm, "if arg0 == 1 and arg1 != 2 and arg2 < 3 and^": errForm,
	} {
		wantWrong(t, head+"call open kill "+s+"\n", e)
		wantWrong(t, head+"call fork log\ncall open errno 13 "+s, e)
	}
}

// P10.1: six conditions, in their order; a seventh is told at its and, behind it.
func TestCondsMany(t *testing.T) {
	x := policy.Rule{Number: names.Open, Action: record.Kill}
	s := head + "call open kill"
	for i := range 6 {
		s += []string{" if ", " and "}[min(i, 1)] + fmt.Sprintf("arg%d > %d", 5-i, i)
		x.Conds = append(x.Conds, policy.Cond{Arg: 5 - i, Op: policy.Gt, Value: uint64(i)})
		wantPolicy(t, s, withRule(x))
	}
	for behind, e := range map[string]api.Errno{
		" ^and arg0 == 1": errMany, " ^and arg0 & 1 == 1": errMany, " ^and arg0 == 1 foo": errMany, " ^and arg0 == 1 and arg9": errMany, " ^and arg0 == 1 and arg0 == 1": errMany,
		" ^if arg0 == 1": errForm, " and^": errForm, " and ^arg9 == 1": errWord, " and arg0 ^1": errForm, " and arg0 & 1 ^!= 1": errForm, " and arg0 & 1 == ^2": errRange, " and arg0 == ^/": errForm,
	} {
		wantWrong(t, s+behind, e)
		wantWrong(t, s+behind+"\ncall foo kill\n", e)
	}
}

// P10.1: handled rights, each set of them, in any order of their names; once.
func TestHandle(t *testing.T) {
	for s, bit := range toldRights {
		wantPolicy(t, head+"handle "+s+"\n", with(func(p *policy.Policy) { p.Handled = 1 << bit }))
	}
	all := right.Set(toldPaths | toldPorts)
	wantPolicy(t, head+"handle connect,bind,truncate,refer,mklink,mkfile,mkdir,rmfile,rmdir,list,read,write,exec\n", with(func(p *policy.Policy) { p.Handled = all }))
	x := New()
	for s := range right.Set(math.MaxUint16) {
		if s &= all; s == 0 {
			continue
		}
		if p, w := x.Parse(head + "handle " + s.Text()); w != (lex.Wrong{}) || p.Handled != s {
			t.Fatalf("handle %s: %v, %v", s.Text(), told(w), p.Handled)
		}
	}
	for s, e := range map[string]api.Errno{
		"^": errForm, "^1": errForm, "^/read": errForm, "^<": errForm, "read ^write": errForm, "read ^1": errForm,
		"^foo": errWord, "^read,": errWord, "^read,,write": errWord, "^read,foo": errWord, "^foo,read": errWord, "^reads": errWord, "^handle": errWord, "^read-write": errWord, "^kill": errWord, "read ^,write": errWord,
		"^read,read": errTwice, "^read,write,read": errTwice, "^bind,bind": errTwice,
		"^-": errWord, // lex's
	} {
		wantWrong(t, head+"handle "+s+"\n", e)
	}
	for _, s := range []string{"handle read", "handle write\n", "handle foo", "handle", "handle /", "handle write,write"} {
		wantWrong(t, head+"handle read\n^"+s, errTwice)
		wantWrong(t, head+"handle connect\ncall fork kill\n ^"+s, errTwice)
	}
}

// P10.1: paths: each that may be, and which may not.
func TestBeneath(t *testing.T) {
	long := "/" + strings.Repeat("12345678901234/", 7) + "12345678901234"
	for _, s := range []string{"/", "/a", "/a/b", "/...", "/.a/..b", "/12345678901234", "/!\"$%&'()*+,-.", "/A=~{|}/[\\]", long} {
		wantPolicy(t, head+"handle read,list\nbeneath "+s+" list\n", with(func(p *policy.Policy) {
			p.Handled, p.Paths = right.Read|right.List, []policy.Beneath{{Path: s, Rights: right.List}}
		}))
	}
	for s, e := range map[string]api.Errno{
		"^": errForm, "^a read": errForm, "^1 read": errForm, "^read": errForm, "^== read": errForm,
		"^// read": errForm, "^/a/ read": errForm, "^/a//b read": errForm, "^/. read": errForm, "^/.. read": errForm, "^/a/../b read": errForm, "^/123456789012345 read": errForm, "^/a,read/": errForm, "^//": errForm,
		"^" + long + "5 read": errLong, // lex's
		"/a^":                 errForm, "/a ^1": errForm, "/a ^/b read": errForm, "/a ^== read": errForm, "/a,read^": errForm,
		"/a ^foo": errWord, "/a ^read,": errWord, "/a ^foo,read": errWord, "/a ^write,foo": errWord,
		"/a ^read,read": errTwice, "/a read ^read": errForm, "/a read ^/": errForm,
		"/a ^write": errRange, "/a ^read,write": errRange, "/a ^bind": errRange, "/a ^read,bind": errRange, "/a ^connect": errRange, "/a ^write foo": errRange,
	} {
		wantWrong(t, head+"handle read,bind\nbeneath "+s+"\n", e)
	}
}

// P10.1: rights of each set are granted beneath a path if all of them are handled, and may be paths'; a port's likewise.
func TestGranted(t *testing.T) {
	x := New()
	r := rand.New(rand.NewSource(10))
	all := right.Set(toldPaths | toldPorts)
	for range 10000 {
		handled, s := right.Set(r.Intn(1<<16))&all, right.Set(r.Intn(1<<16))&all
		if r.Intn(2) == 0 {
			s &= handled
		}
		if r.Intn(2) == 0 {
			s &= oneOf[right.Set](r, toldPaths, toldPorts)
		}
		if handled == 0 || s == 0 {
			continue
		}
		for ahead, fit := range map[string]right.Set{"beneath /a ": toldPaths, "port 7 ": toldPorts} {
			p, w := x.Parse(head + "handle " + handled.Text() + "\n" + ahead + s.Text() + "\n")
			if handled&fit&s != s {
				if w != (lex.Wrong{Line: 4, Col: len(ahead) + 1, Err: errRange}) {
					t.Fatalf("%s%s, of %s: %v", ahead, s.Text(), handled.Text(), told(w))
				}
			} else if w != (lex.Wrong{}) || len(p.Paths) == 1 && p.Paths[0].Rights != s || len(p.Ports) == 1 && p.Ports[0].Rights != s || len(p.Paths)+len(p.Ports) != 1 {
				t.Fatalf("%s%s, of %s: %v, %v", ahead, s.Text(), handled.Text(), told(w), p)
			}
		}
	}
}

// P10.1: rights have to be handled on a line ahead.
func TestHandledAhead(t *testing.T) {
	wantWrong(t, head+"beneath /a ^read\n", errRange)
	wantWrong(t, head+"beneath /a ^read\nhandle read\n", errRange)
	wantWrong(t, head+"port 80 ^bind\n", errRange)
	wantWrong(t, head+"port 80 ^bind\nhandle bind\n", errRange)
	wantWrong(t, head+"handle bind\nport 80 bind\nbeneath /a ^read\n", errRange)
	wantWrong(t, head+"handle read\nbeneath /a read\nport 80 ^bind\n", errRange)
	wantWrong(t, head+"beneath /a ^foo\n", errWord)
	wantWrong(t, head+"port 80 ^foo,bind\n", errWord)
	wantWrong(t, head+"beneath ^a read\n", errForm)
}

// P10.1: ports, each that there is, and beyond.
func TestPort(t *testing.T) {
	x := New()
	for n := range 70000 {
		p, w := x.Parse(fmt.Sprintf("policy p\ndefault kill\nhandle connect\nport %d connect\n", n))
		if n <= 65535 {
			if w != (lex.Wrong{}) || len(p.Ports) != 1 || p.Ports[0] != (policy.Port{Number: uint16(n), Rights: right.Connect}) {
				t.Errorf("port %d: %v, %v", n, told(w), p)
			}
		} else if w != (lex.Wrong{Line: 4, Col: 6, Err: errRange}) {
			t.Errorf("port %d: %v", n, told(w))
		}
	}
	wantPolicy(t, head+"handle bind\nport 0xffff bind\n", with(func(p *policy.Policy) {
		p.Handled, p.Ports = right.Bind, []policy.Port{{Number: 65535, Rights: right.Bind}}
	}))
	for s, e := range map[string]api.Errno{
		"^": errForm, "^a bind": errForm, "^/80 bind": errForm, "^< bind": errForm, "^bind": errForm,
		"^65536 bind": errRange, "^0x10000 bind": errRange, "^65536": errRange, "^65536 foo": errRange, "^4294967376 bind": errRange, "^18446744073709551615 bind": errRange,
		"^080 bind": errRange, "^80bind": errRange, // lex's
		"80^": errForm, "80 ^80": errForm, "80 ^/ bind": errForm, "80 ^== bind": errForm,
		"80 ^foo": errWord, "80 ^bind,": errWord, "80 ^connect,foo": errWord, "80 ^bind,bind": errTwice,
		"80 ^connect": errRange, "80 ^bind,connect": errRange, "80 ^read": errRange, "80 ^bind,read": errRange, "80 ^read foo": errRange,
		"80 bind ^bind": errForm, "80 bind ^90": errForm,
	} {
		wantWrong(t, head+"handle read,bind\nport "+s+"\n", e)
	}
}

// P10.1: a path or a port that was there is told at it, behind its rights.
func TestTwice(t *testing.T) {
	const ahead = head + "handle read,write,bind,connect\nbeneath /a read\nbeneath /b read\nport 80 bind\nport 81 bind\n"
	for s, e := range map[string]api.Errno{
		"beneath ^/a read": errTwice, "beneath ^/b write": errTwice, "beneath ^/a read foo": errTwice, "beneath ^/a read\ncall foo": errTwice, "call fork kill\nbeneath /c read\nbeneath ^/c read": errTwice,
		"beneath /a^": errForm, "beneath /a ^1": errForm, "beneath /a ^foo": errWord, "beneath /a ^list": errRange, "beneath /a ^bind": errRange, "beneath /a ^read,read": errTwice,
		"port ^80 bind": errTwice, "port ^81 connect": errTwice, "port ^0x50 bind": errTwice, "port ^80 bind foo": errTwice, "port ^80 bind 80": errTwice, "port 82 bind\nport ^82 bind": errTwice,
		"port 80^": errForm, "port 80 ^/a": errForm, "port 80 ^foo": errWord, "port 80 ^read": errRange, "port 80 ^bind,bind": errTwice,
	} {
		wantWrong(t, ahead+s+"\n", e)
	}
	if p, w := New().Parse(ahead + "beneath /a/b read\nbeneath / read\nbeneath /ab read\nport 8 bind\nport 801 bind\ncall open kill\ncall open kill\n"); w != (lex.Wrong{}) || len(p.Paths) != 5 || len(p.Ports) != 4 || len(p.Rules) != 2 {
		t.Errorf("what isn't there twice: %v, %+v", told(w), p)
	}
}

// P10.1: 64 rules, 32 paths, 32 ports; one more is told at its line's first word, behind the line.
func TestMany(t *testing.T) {
	rules := lines(64, func(i int) string { return fmt.Sprintf("call open errno %d", i+1) })
	paths := lines(32, func(i int) string { return fmt.Sprintf("beneath /p%d read", i) })
	ports := lines(32, func(i int) string { return fmt.Sprintf("port %d bind", i) })
	const handle = "handle read,bind\n"
	full := head + handle + rules + paths + ports
	p, w := New().Parse(full)
	if w != (lex.Wrong{}) || len(p.Rules) != 64 || len(p.Paths) != 32 || len(p.Ports) != 32 || p.Check(names.New()) != api.OK {
		t.Fatalf("a full policy: %v, %+v", told(w), p)
	}
	for i := range 64 {
		if p.Rules[i].Action != record.Fail(api.Errno(i+1)) || i < 32 && (p.Paths[i].Path != fmt.Sprintf("/p%d", i) || int(p.Ports[i].Number) != i) {
			t.Errorf("a full policy's things at %d", i)
		}
	}
	for s, e := range map[string]api.Errno{
		"^call open kill": errMany, " ^call open kill if arg0 == 1\n": errMany, "^call fork log\ncall foo": errMany,
		"call ^foo kill": errNoCall, "call open ^foo": errWord, "call open kill ^kill": errForm, "call^": errForm, "call open kill if arg0 & 1 == ^2": errRange,
		"^beneath /b read": errMany, "^beneath /b read\nfoo": errMany,
		"beneath ^/p3 read": errTwice, "beneath ^/p31 read": errTwice, "beneath ^// read": errForm, "beneath /b ^list": errRange, "beneath /b read ^/": errForm, "beneath ^/p0 read /": errTwice,
		"^port 32 bind": errMany, "\t^port 0x20 bind # more": errMany,
		"port ^3 bind": errTwice, "port ^31 bind": errTwice, "port ^65536 bind": errRange, "port 32 ^read": errRange, "port 32 bind ^32": errForm, "port ^0 bind 1": errTwice,
		"^foo": errWord, "^handle read": errTwice, "^call,": errForm,
	} {
		wantWrong(t, full+s, e)
	}
	wantWrong(t, head+rules+"^call open kill\n"+handle, errMany)
	wantWrong(t, head+handle+paths+"^beneath /b read\n"+rules, errMany)
	wantWrong(t, head+handle+ports+"^port 99 bind\n"+paths, errMany)
}

// P10.1: seven conditions of the 65th rule: the conditions are told, being ahead of the line's end.
func TestManyOfMany(t *testing.T) {
	rules := lines(64, func(int) string { return "call open kill" })
	wantWrong(t, head+rules+"call open kill if arg0 == 1"+strings.Repeat(" and arg0 == 1", 5)+" ^and arg0 == 1\n", errMany)
	wantWrong(t, head+rules+"^call open kill if arg0 == 1"+strings.Repeat(" and arg0 == 1", 5)+"\n", errMany)
}

// P10.1: lex's error, wherever it is, is told ahead of what the words say.
func TestLexFirst(t *testing.T) {
	wantWrong(t, "^%", errWord)
	wantWrong(t, "foo\nbar baz\n\n ^A\n", errWord)
	wantWrong(t, "policy 1\ndefault 1 ^01\n", errRange)
	wantWrong(t, head+"foo\nbeneath ^/"+strings.Repeat("a", 120), errLong)
	wantWrong(t, head+"call open ^Kill", errWord)
	wantWrong(t, strings.Repeat(" ", 65537), errLong)
	wantWrong(t, head+"foo"+strings.Repeat("\n", 65536), errLong)
	wantPolicy(t, head+strings.Repeat("\n", 65536-len(head)), with(func(*policy.Policy) {}))
	wantWrong(t, head+strings.Repeat("\n", 65535-len(head))+"^x", errWord)
}

// P10.1: of two words that are wrong the first is told, of two lines the first.
func TestFirstWrong(t *testing.T) {
	wantWrong(t, "^foo 1\nbar\n", errForm)
	wantWrong(t, "policy ^1 2\ndefault foo\n", errForm)
	wantWrong(t, "policy p\ndefault ^foo bar\nbaz\n", errWord)
	wantWrong(t, head+"call ^foo bar if baz\n", errNoCall)
	wantWrong(t, head+"call open ^foo bar\n", errWord)
	wantWrong(t, head+"call open errno ^0 if arg9 < 1\n", errRange)
	wantWrong(t, head+"call open kill if ^arg9 & 0 == 1\ncall foo kill\n", errWord)
	wantWrong(t, head+"port ^99999 foo\n", errRange)
	wantWrong(t, head+"beneath ^// foo\n", errForm)
	wantWrong(t, head+"^foo\nbar\n", errWord)
	wantWrong(t, head+"call open kill\n^foo,\n", errForm)
}
