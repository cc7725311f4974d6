package norm_test

import (
	"math"
	"slices"
	"strings"
	"testing"

	"raddle/api"
	"raddle/norm"
)

// The calls are those of the chapter.
var (
	_ func([]api.Node, []api.Def) ([]api.Node, api.Errno) = norm.Expand
	_ func([]api.Node) []api.Node                         = norm.Fold
	_ func([]api.Node) bool                               = norm.Nullable
	_ func([]api.Def) bool                                = norm.Right
)

// noTrees are nodes that are no tree.
func noTrees() [][]api.Node {
	a, b := one('a'), one('b')
	long := []api.Node{a}
	for len(long) < 1025 {
		long = append(long, rep(len(long)-1, 0, -1))
	}
	return [][]api.Node{
		nil, {}, {{}}, {{Op: 7}}, {{Op: 255}}, {{Op: 0, S: a.S}}, {{Op: api.Bytes}}, long,
		{a, b}, {empty(), empty()}, {a, b, a, cat(0, 1)}, {a, b, cat(0, 1), a}, {a, b, rep(0, 0, 1)},
		{a, b, cat(1, 0)}, {a, b, cat(0, 0)}, {a, cat(0, 0)}, {a, b, alt(0, 1, 1)}, {a, b, cat(0, 2)}, {a, b, cat(0, 3)}, {a, b, cat(-1, 0)},
		{cat(1, 2), a, b}, {empty(), cat(0)}, {empty(), alt(0)}, {cat()}, {alt()}, {rep(0, 0, 1)}, {a, rep(1, 0, 1)}, {{Op: api.Rep, Hi: 1}}, {a, b, {Op: api.Rep, L: []int{0, 1}, Hi: 1}},
		{a, b, cat(math.MinInt, math.MaxInt)}, {a, b, rep(0, 0, -1), cat(1, 2)},
		{a, rep(0, 0, 0)}, {a, rep(0, 2, 1)}, {a, rep(0, -1, 1)}, {a, rep(0, 0, -2)}, {a, rep(0, 0, 4097)}, {a, rep(0, 4097, -1)},
		{ref("")}, {ref("9")}, {ref("a-b")}, {ref(strings.Repeat("n", 33))},
		{{Op: api.Empty, S: a.S}}, {{Op: api.Empty, Name: "n"}}, {{Op: api.Empty, L: []int{0}}}, {{Op: api.Bytes, S: a.S, Lo: 1}}, {{Op: api.Ref, Name: "n", Hi: 1}},
	}
}

// P6.1: Right.
func TestRight(t *testing.T) {
	a := one('a')
	longest := strings.Repeat("n", 32)
	for i, x := range []struct {
		defs []api.Def
		want bool
	}{
		{nil, true}, {[]api.Def{}, true},
		{[]api.Def{def("d", a)}, true},
		{[]api.Def{def("d", a), def("D", a), def("_", a), def("d1", a), def(longest, a), def(longest[1:], a)}, true},
		{[]api.Def{def("d", a), def("d", a)}, false},
		{[]api.Def{def("d", a), def("d", one('b'))}, false},
		{[]api.Def{def("d", a), def("e", a), def("f", a), def("e", empty())}, false},
		{[]api.Def{def("d", a), def("e", a), def("f", a), def("d", empty())}, false},
		{[]api.Def{def("", a)}, false}, {[]api.Def{def("1", a)}, false}, {[]api.Def{def("a-b", a)}, false}, {[]api.Def{def("a b", a)}, false}, {[]api.Def{def("é", a)}, false}, {[]api.Def{def(longest+"n", a)}, false},
		{[]api.Def{def("d", a), def("1", a)}, false}, {[]api.Def{def("1", a), def("d", a)}, false},
		{[]api.Def{{}}, false}, {[]api.Def{{Name: "d"}}, false}, {[]api.Def{{L: []api.Node{a}}}, false},
		// What the names within stand for does not matter.
		{[]api.Def{def("d", ref("d"))}, true}, {[]api.Def{def("d", ref("none"))}, true}, {[]api.Def{def("d", ref("e")), def("e", ref("d"))}, true},
	} {
		if got := norm.Right(x.defs); got != x.want {
			t.Errorf("%d: %t", i, got)
		}
		if e := expandA(x.defs); (e == api.OK) != x.want || (e == api.ErrArg) == x.want {
			t.Errorf("%d: Expand answers %d", i, e)
		}
	}
	for i, l := range noTrees() {
		for place := range 3 {
			defs := []api.Def{def("d", a), def("e", empty())}
			defs = slices.Insert(defs, place, api.Def{Name: "x", L: l})
			if norm.Right(defs) || rightDefs(defs) {
				t.Errorf("what is no tree, %d, at %d: right", i, place)
			}
			if e := expandA(defs); e != api.ErrArg {
				t.Errorf("what is no tree, %d, at %d: Expand answers %d", i, place, e)
			}
		}
	}
}

// expandA is the error of a tree without names, which asks for none of the Defs; its other answer is held against it.
func expandA(defs []api.Def) api.Errno {
	l, e := norm.Expand([]api.Node{one('a')}, defs)
	if (e == api.OK) != same(l, []api.Node{one('a')}) || e != api.OK && len(l) > 0 {
		return -1
	}
	return e
}

// P6.1: many Defs.
func TestManyDefs(t *testing.T) {
	var defs []api.Def
	for i := range 5000 {
		name := "n"
		for k := i; k > 0; k /= 26 {
			name += string(rune('a' + k%26))
		}
		defs = append(defs, def(name, ref("n")))
	}
	defs[0].L = []api.Node{one('z')}
	if !norm.Right(defs) {
		t.Error("not right")
	}
	for _, i := range []int{0, 1, 4999} {
		if l, e := expanded(t, []api.Node{ref(defs[i].Name)}, defs); text(t, l) != "z" || e != api.OK {
			t.Error(i, l, e)
		}
		if norm.Right(append(slices.Clip(defs), defs[i])) {
			t.Error("twice, and right:", i)
		}
	}
}

// P6.1, P6.3: names that stand for something.
func TestExpand(t *testing.T) {
	defs := named(t, "d", "[0-9]", "n", "{d}+(\\.{d}+)?", "e", "", "two", "ab", "or", "a|b", "star", "a*", "same", "d", "D", "{same}{d}", "_", "{or}", "far", "{_}{2,3}", "all", "{d}{n}{e}{two}{or}{star}{same}{D}{_}{far}")
	for pattern, want := range map[string]string{
		"{d}+":               "[0-9]+",
		"{d}*":               "[0-9]*",
		"{d}":                "[0-9]",
		"{n}":                "[0-9]+(\\.[0-9]+)?",
		"-{n}x":              "\\-([0-9]+(\\.[0-9]+)?)x",
		"{e}":                "",
		"{e}{e}":             "()()",
		"{e}|{e}":            "|",
		"x{e}y":              "x()y",
		"{two}c":             "(ab)c",
		"c{two}":             "c(ab)",
		"{two}|c":            "ab|c",
		"{two}*":             "(ab)*",
		"{or}c":              "(a|b)c",
		"{or}|c":             "(a|b)|c",
		"{star}*":            "a**",
		"{same}":             "d",
		"{D}":                "d[0-9]",
		"{_}":                "a|b",
		"{far}{_}{far}":      "(a|b){2,3}(a|b)(a|b){2,3}",
		"{d}{d}{d}":          "[0-9][0-9][0-9]",
		"{n}{d}{n}":          "([0-9]+(\\.[0-9]+)?)[0-9]([0-9]+(\\.[0-9]+)?)",
		"({d}|{two}){4,}{D}": "([0-9]|ab){4,}(d[0-9])",
		"{all}":              "[0-9]([0-9]+(\\.[0-9]+)?)()(ab)(a|b)a*d(d[0-9])(a|b)(a|b){2,3}",
	} {
		l, e := expanded(t, parsed(t, pattern), defs)
		if got := text(t, l); got != want || e != api.OK {
			t.Errorf("%q: %q, %d; not %q", pattern, got, e, want)
		}
	}
	got, _ := expanded(t, parsed(t, "x{two}|{star}"), defs)
	if want := []api.Node{one('x'), one('a'), one('b'), cat(1, 2), cat(0, 3), one('a'), rep(5, 0, -1), alt(4, 6)}; !same(got, want) {
		t.Error("places:", got)
	}
}

// P6.3: without names a tree stays, whatever the Defs are.
func TestWithoutNames(t *testing.T) {
	for _, s := range []string{"", "a", "ab", "ab|c*", "(a|)b{2,2}", "()()", "a{12,345}", "((ab)c|(d|(e|f))*)+", "[^a-cx].\\n"} {
		l := parsed(t, s)
		for _, defs := range [][]api.Def{nil, {}, named(t, "a", "b"), named(t, "a", "{a}", "b", "{none}")} {
			if got, e := expanded(t, l, defs); e != api.OK || !same(got, l) {
				t.Errorf("%q: %v, %d", s, got, e)
			}
		}
	}
}

// P6.1: names that nothing has, and names that stand for themselves; the first one in the order of the walk tells.
func TestErrors(t *testing.T) {
	defs := named(t, "d", "{d}a", "x", "a{y}", "y", "{x}|b", "self", "{self}", "p", "{q}", "q", "{r}*", "r", "({p}|c)z", "missing", "a{none}", "late", "a(b|{missing})", "twice", "{fine}{fine}", "fine", "f", "thrice", "{twice}{fine}{twice}", "into", "a{x}", "firstcycle", "{d}{none}", "firstname", "{none}{d}")
	for pattern, want := range map[string]api.Errno{
		"{d}":                       api.ErrCycle,
		"{self}":                    api.ErrCycle,
		"{x}":                       api.ErrCycle,
		"{y}":                       api.ErrCycle,
		"{p}":                       api.ErrCycle,
		"{q}":                       api.ErrCycle,
		"{r}":                       api.ErrCycle,
		"{into}":                    api.ErrCycle,
		"a|b|c{into}":               api.ErrCycle,
		"{none}":                    api.ErrName,
		"{D}":                       api.ErrName,
		"{missing}":                 api.ErrName,
		"{late}":                    api.ErrName,
		"a*({late})+":               api.ErrName,
		"{none}|{x}":                api.ErrName,
		"{x}|{none}":                api.ErrCycle,
		"{x}{none}":                 api.ErrCycle,
		"({none})*{x}":              api.ErrName,
		"a({x}|b)|{none}":           api.ErrCycle,
		"{firstcycle}":              api.ErrCycle,
		"{firstname}":               api.ErrName,
		"{fine}{firstname}{x}":      api.ErrName,
		"{fine}{firstcycle}{n}":     api.ErrCycle,
		"{fine}":                    api.OK,
		"{fine}{fine}":              api.OK,
		"{twice}":                   api.OK,
		"{twice}{twice}":            api.OK,
		"{thrice}({thrice}|{fine})": api.OK,
	} {
		l, e := expanded(t, parsed(t, pattern), defs)
		if e != want || (len(l) > 0) != (want == api.OK) {
			t.Errorf("%q: %v, %d; not %d", pattern, l, e, want)
		}
	}
	if _, e := expanded(t, parsed(t, "{a}"), nil); e != api.ErrName {
		t.Error("without Defs:", e)
	}
}

// P6.1: what is no tree, and Defs that are not right, come ahead of all other errors.
func TestErrArgFirst(t *testing.T) {
	loop := named(t, "d", "{d}")
	for i, l := range noTrees() {
		for _, defs := range [][]api.Def{nil, loop} {
			if got, e := norm.Expand(l, defs); len(got) > 0 || e != api.ErrArg {
				t.Errorf("%d: %v, %d", i, got, e)
			}
		}
	}
	for _, s := range []string{"a", "{d}", "{none}", "{big}"} {
		defs := append(named(t, "big", strings.Repeat("a", 1000)+"{self}", "self", "{self}"), loop...)
		for i, bad := range []api.Def{def("d", one('a')), def("9", one('a')), def("e", cat()), {}, {Name: "e"}} {
			for _, both := range [][]api.Def{append(slices.Clip(defs), bad), append([]api.Def{bad}, defs...)} {
				if got, e := norm.Expand(parsed(t, s), both); len(got) > 0 || e != api.ErrArg {
					t.Errorf("%q, %d: %v, %d", s, i, got, e)
				}
			}
		}
	}
	if got, e := norm.Expand([]api.Node{ref("none"), ref("d"), {Op: 9, L: []int{0, 1}}}, loop); len(got) > 0 || e != api.ErrArg {
		t.Error(got, e)
	}
}

// P6.2: Fold.
func TestFold(t *testing.T) {
	for pattern, want := range map[string]string{
		"":                "",
		"a":               "[Aa]",
		"A":               "[Aa]",
		"z":               "[Zz]",
		"1":               "1",
		"[@\\[`\\{]":      "[@\\[`\\{]",
		"a[x-z]1":         "[Aa][X-Zx-z]1",
		"[^a]":            "[\\x00-\\xff]",
		"[^aA]":           "[\\x00-@B-`b-\\xff]",
		".":               ".",
		"[A-Z]":           "[A-Za-z]",
		"{d}":             "{d}",
		"{D}a{d}":         "{D}[Aa]{d}",
		"(a|B)*c{2,3}":    "([Aa]|[Bb])*[Cc]{2,3}",
		"\\xe9\\xc1":      "\\xe9\\xc1",
		"(|a)+|[0-9]{7,}": "(|[Aa])+|[0-9]{7,}",
	} {
		l := parsed(t, pattern)
		got := norm.Fold(l)
		if text(t, got) != want || !same(norm.Fold(got), got) {
			t.Errorf("%q: %q, not %q", pattern, text(t, got), want)
		}
	}
	for b := range 256 {
		if got := norm.Fold([]api.Node{one(byte(b))}); len(got) != 1 || got[0].S != foldedSet(one(byte(b)).S) {
			t.Error(b, got)
		}
	}
	for i, l := range noTrees() {
		if got := norm.Fold(l); len(got) > 0 {
			t.Errorf("what is no tree, %d: %v", i, got)
		}
	}
}

// P6.2: Nullable.
func TestNullable(t *testing.T) {
	for pattern, want := range map[string]bool{
		"": true, "()": true, "a": false, "[a-z]": false, ".": false, "{d}": false,
		"()()": true, "a()": false, "()a": false, "a?b?": true, "a?b": false, "ab?": false, "a?bc?": false, "()()()": true, "a?b?c": false, "{d}()": false, "(){d}": false,
		"a|": true, "|a": true, "a|b": false, "a|b*": true, "a|b|": true, "|a|b": true, "a||b": true, "|": true, "{d}|a": false, "{d}|": true,
		"a*": true, "a?": true, "a+": false, "a{0,3}": true, "a{1,3}": false, "a{0,}": true, "a{4096}": false, "a{4096,}": false,
		"()*": true, "()+": true, "(){3}": true, "(){3,}": true, "(a*)+": true, "(a*){4096}": true, "(a+)+": false, "(a+)*": true, "{d}*": true, "{d}+": false, "(a|){2}": true, "(ab){2}": false, "(a?b?){2,5}": true,
		"(a|)(b?)": true, "(a|)b": false, "(a|b)(c|)": false, "(ab|c*)(d|())": true, "((a*)|b)c": false,
	} {
		l := parsed(t, pattern)
		if got := norm.Nullable(l); got != want || nothing(l, len(l)-1) != want {
			t.Errorf("%q: %t", pattern, got)
		}
	}
	for i, l := range noTrees() {
		if norm.Nullable(l) {
			t.Errorf("what is no tree, %d, may be nothing", i)
		}
	}
}

// DOC.md, Rules 3: a list that is empty is as one that is nil.
func TestEmptyLists(t *testing.T) {
	with := func(n api.Node) []api.Node {
		n.L = []int{}
		return []api.Node{n}
	}
	defs := []api.Def{{Name: "e", L: with(empty())}, {Name: "a", L: with(one('a'))}}
	if !norm.Right(defs) || !norm.Nullable(with(empty())) || norm.Nullable(with(one('a'))) {
		t.Error("not the same")
	}
	for name, want := range map[string]api.Node{"e": empty(), "a": one('a')} {
		if l, e := expanded(t, with(ref(name)), defs); e != api.OK || !same(l, []api.Node{want}) {
			t.Error(name, l, e)
		}
	}
	if l := norm.Fold(with(one('1'))); !same(l, []api.Node{one('1')}) {
		t.Error(l)
	}
}
