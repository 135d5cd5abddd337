package policy_test

import (
	"math"
	"slices"
	"strconv"
	"strings"
	"testing"

	"greatseal/api"
	"greatseal/names"
	"greatseal/policy"
)

// allow is a rule that allows keys from 10 on, and lives up to 90.
func allow(name string, pats ...string) api.Rule {
	return api.Rule{Name: name, Allow: true, Pats: pats, KeyMin: 10, LifeMax: 90}
}

func refuse(name string, pats ...string) api.Rule { return api.Rule{Name: name, Pats: pats} }

func wish(all ...string) api.Wish { return api.Wish{Names: all, Key: 10, Life: 90} }

// rules are some of which each decides of something.
func rules() []api.Rule {
	return []api.Rule{allow("r0", "*.a", "c.b"), refuse("r1", "*.x.a"), allow("r2", "y.x.a", "*.y.x.a"), refuse("r3", "a", "*.c.b"), allow("r4", "*.b", "d.c.b")}
}

// many are so many rules, of which none clash.
func many(number int) []api.Rule {
	var l []api.Rule
	for k := range number {
		l = append(l, allow("r"+strconv.Itoa(k), "n"+strconv.Itoa(k), "*.n"+strconv.Itoa(k)))
	}
	return l
}

func clashing() [][]api.Rule {
	return [][]api.Rule{
		{allow("a", "x"), allow("b", "x")}, {allow("a", "x"), refuse("b", "x")}, {allow("a", "*.x", "y"), refuse("b", "z", "*.x")}, {allow("a", "x"), allow("b", "y"), allow("c", "x")}, {allow("a", "x"), allow("b", "x"), allow("c", "x")},
		append(rules(), refuse("r5", "y.x.a")), append(many(31), refuse("last", "n30")),
	}
}

// mayNot are rules of which rule.Check tells ErrArg; those of some clash, too.
func mayNot() [][]api.Rule {
	return [][]api.Rule{
		{{}}, {allow("", "x")}, {allow("A", "x")}, {allow("a")}, {allow("a", "a..b")}, {allow("a", "x", "x")}, {allow("a", "x"), refuse("a", "y")}, {allow("a", "x"), refuse("a", "x")}, {refuse("a", "x"), {Name: "b", Pats: []string{"x"}, KeyMin: 1}}, append(rules(), allow("r0", "z")), append(many(33), allow("r0", "z")),
		{{Name: "a", Allow: true, Pats: []string{"x"}}}, {{Name: "a", Allow: true, Pats: []string{"x"}, LifeMax: 1, Window: 1}},
	}
}

// mayNotWishes are of names that are allowed, but for what is wrong with the wish.
func mayNotWishes() []api.Wish {
	var l []api.Wish
	for _, n := range []int{math.MinInt, -1, api.MaxTime + 1, math.MaxInt} {
		l = append(l, api.Wish{Account: n, Names: []string{"b.a"}, Key: 10, Life: 90}, api.Wish{Names: []string{"b.a"}, Key: 10, Life: n})
	}
	for _, name := range []string{"", ".", "a.", ".a", "a..b", "-a", "A", "*.a", "*", "_", "a b", "ä", strings.Repeat("a", 17), "a.a.a.a.a.a.a.a.b"} {
		l = append(l, wish(name), wish("b.a", name), wish(name, "b.a"), wish("b.a", name, "c.a"))
	}
	return append(l, wish(), api.Wish{}, wish("a0", "a1", "a2", "a3", "a4", "a5", "a6", "a7", "a8"), wish("b.a", "b.a"), wish("b.a", "c.a", "b.a"), wish("a0", "a1", "a2", "a3", "a4", "a5", "a6", "a0"), wish("b.a", "c.a", "c.a"))
}

func sameRule(a, b api.Rule) bool {
	return a.Name == b.Name && a.Allow == b.Allow && a.KeyMin == b.KeyMin && a.LifeMax == b.LifeMax && a.Most == b.Most && a.Window == b.Window && slices.Equal(a.Pats, b.Pats)
}

func sameNode(a, b api.Node) bool {
	return a.Label == b.Label && a.Here == b.Here && a.Below == b.Below && slices.Equal(a.Kids, b.Kids)
}

func sameTable(a, b api.Table) bool {
	return slices.EqualFunc(a.Rules, b.Rules, sameRule) && slices.EqualFunc(a.Nodes, b.Nodes, sameNode)
}

func sameVerdict(a, b api.Verdict) bool {
	return a.Allow == b.Allow && a.At == b.At && slices.Equal(a.By, b.By)
}

func copied(l []api.Rule) []api.Rule {
	l = slices.Clone(l)
	for k := range l {
		l[k].Pats = slices.Clone(l[k].Pats)
	}
	return l
}

func copiedTable(t api.Table) api.Table {
	t.Rules, t.Nodes = copied(t.Rules), slices.Clone(t.Nodes)
	for k := range t.Nodes {
		t.Nodes[k].Kids = slices.Clone(t.Nodes[k].Kids)
	}
	return t
}

// tableOf is the table of rules, by what its paths are: each node is of what a pattern ends with, in the order in which these come first.
func tableOf(l []api.Rule) api.Table {
	ends := []string{""}
	x := api.Table{Rules: l, Nodes: []api.Node{{Here: -1, Below: -1}}}
	for number, r := range l {
		for _, pat := range r.Pats {
			name := strings.TrimPrefix(pat, "*.")
			labels := strings.Split(name, ".")
			for k := len(labels) - 1; k >= 0; k-- {
				end := strings.Join(labels[k:], ".")
				if slices.Contains(ends, end) {
					continue
				}
				above := slices.Index(ends, strings.Join(labels[k+1:], "."))
				x.Nodes[above].Kids = append(x.Nodes[above].Kids, len(ends))
				ends = append(ends, end)
				x.Nodes = append(x.Nodes, api.Node{Label: labels[k], Here: -1, Below: -1})
			}
			if at := slices.Index(ends, name); pat == name {
				x.Nodes[at].Here = number
			} else {
				x.Nodes[at].Below = number
			}
		}
	}
	return x
}

// decider is the rule that has the pattern that matches, and is within all others that do.
func decider(l []api.Rule, name string) int {
	all := func(ask func(pat string) bool) bool {
		for _, r := range l {
			for _, pat := range r.Pats {
				if names.Match(pat, name) && !ask(pat) {
					return false
				}
			}
		}
		return true
	}
	for number, r := range l {
		for _, pat := range r.Pats {
			if names.Match(pat, name) && all(func(other string) bool { return names.Within(pat, other) }) {
				return number
			}
		}
	}
	return -1
}

// verdictOf is what the chapter's words say of a wish.
func verdictOf(l []api.Rule, w api.Wish) api.Verdict {
	var v api.Verdict
	refused := -1
	for at, name := range w.Names {
		by := decider(l, name)
		v.By = append(v.By, by)
		allowed := by >= 0 && l[by].Allow && w.Key >= l[by].KeyMin && w.Life >= 1 && w.Life <= l[by].LifeMax
		if !allowed && refused < 0 {
			refused = at
		}
	}
	if refused < 0 {
		v.Allow = true
		return v
	}
	v.At = refused
	return v
}

// said holds what rules mean, and what their table decides, against what is wanted.
func said(t *testing.T, want api.Verdict, l []api.Rule, w api.Wish) {
	t.Helper()
	if v, e := policy.Means(l, w); !sameVerdict(v, want) || e != api.OK {
		t.Errorf("Means(%v, %v) is %v, %d, not %v", l, w, v, e, want)
	}
	if v, e := policy.Decide(tableOf(l), w); !sameVerdict(v, want) || e != api.OK {
		t.Errorf("Decide(of %v, %v) is %v, %d, not %v", l, w, v, e, want)
	}
}

func allowed(t *testing.T, l []api.Rule, w api.Wish, by ...int) {
	t.Helper()
	said(t, api.Verdict{Allow: true, By: by}, l, w)
}

func refused(t *testing.T, l []api.Rule, w api.Wish, at int, by ...int) {
	t.Helper()
	said(t, api.Verdict{At: at, By: by}, l, w)
}

func notMeant(t *testing.T, what string, want api.Errno, l []api.Rule, w api.Wish) {
	t.Helper()
	if v, e := policy.Means(l, w); !sameVerdict(v, api.Verdict{}) || e != want {
		t.Errorf("%s: Means(%v, %v) is %v, %d, not %d", what, l, w, v, e, want)
	}
}

func notDecided(t *testing.T, what string, want api.Errno, x api.Table, w api.Wish) {
	t.Helper()
	if v, e := policy.Decide(x, w); !sameVerdict(v, api.Verdict{}) || e != want {
		t.Errorf("%s: Decide(%v, %v) is %v, %d, not %d", what, x, w, v, e, want)
	}
}

func compiled(t *testing.T, want api.Table, l []api.Rule) {
	t.Helper()
	if x, e := policy.Compile(l); !sameTable(x, want) || e != api.OK {
		t.Errorf("Compile(%v) is %v, %d, not %v", l, x, e, want)
	}
	checked(t, api.OK, want)
}

func notCompiled(t *testing.T, want api.Errno, l []api.Rule) {
	t.Helper()
	if x, e := policy.Compile(l); !sameTable(x, api.Table{}) || e != want {
		t.Errorf("Compile(%v) is %v, %d, not %d", l, x, e, want)
	}
}

func checked(t *testing.T, want api.Errno, x api.Table) {
	t.Helper()
	if e := policy.Check(x); e != want {
		t.Errorf("Check(%v) is %d, not %d", x, e, want)
	}
}

func clash(t *testing.T, want [][2]int, l ...api.Rule) {
	t.Helper()
	if pairs := policy.Clash(l); !slices.Equal(pairs, want) {
		t.Errorf("Clash(%v) is %v, not %v", l, pairs, want)
	}
}

// P16.1

func TestClash(t *testing.T) {
	clash(t, nil)
	clash(t, nil, allow("a", "x"))
	clash(t, nil, rules()...)
	clash(t, nil, many(32)...)
	clash(t, nil, many(100)...)
	clash(t, [][2]int{{0, 1}}, allow("a", "x"), allow("b", "x"))
	clash(t, [][2]int{{0, 1}}, refuse("a", "x"), allow("b", "x"))
	clash(t, nil, allow("a", "x"), allow("b", "*.x"), allow("c", "y.x"))
	clash(t, [][2]int{{1, 2}}, allow("a", "x"), allow("b", "*.x"), refuse("c", "y.x", "*.x"))
	clash(t, [][2]int{{0, 2}, {0, 3}, {1, 2}, {1, 4}, {2, 3}}, allow("a", "p", "q"), allow("b", "r", "s"), allow("c", "p", "r"), allow("d", "q", "p"), allow("e", "s", "t"))
	// Of three of one text each pair, of two of several texts one.
	clash(t, [][2]int{{0, 1}, {0, 2}, {1, 2}}, allow("a", "x"), allow("b", "x"), allow("c", "x"))
	clash(t, [][2]int{{0, 2}}, allow("a", "x", "y", "z"), allow("b", "w"), allow("c", "z", "y", "x"))
	clash(t, [][2]int{{0, 1}, {0, 2}, {0, 3}, {1, 2}, {1, 3}, {2, 3}}, allow("a", "x", "y"), allow("b", "x", "y"), allow("c", "x"), allow("d", "y", "x"))
	clash(t, [][2]int{{0, 3}, {1, 2}}, allow("a", "z"), allow("b", "y"), allow("c", "y"), allow("d", "z"))
}

func TestClashOfRulesThatMayNotBe(t *testing.T) {
	clash(t, nil, api.Rule{}, api.Rule{})
	clash(t, nil, refuse("a", "x", "x"), refuse("a", "y", "y"))
	clash(t, [][2]int{{0, 1}}, refuse("a", "", "x"), refuse("a", "y", ""))
	clash(t, [][2]int{{0, 2}}, refuse("a", "A..", "A..", "-"), api.Rule{}, refuse("-", "*", "A..", "A.."))
	var all [][2]int
	var l []api.Rule
	for k := range 40 {
		l = append(l, refuse("", slices.Repeat([]string{"x"}, 20)...))
		for other := k + 1; other < 40; other++ {
			all = append(all, [2]int{k, other})
		}
	}
	clash(t, all, l...)
	clash(t, nil, refuse("a", slices.Repeat([]string{"x"}, 20000)...))
}

func TestBare(t *testing.T) {
	bare := func(l []api.Rule, all []string, want ...string) {
		t.Helper()
		if told := policy.Bare(l, all); !slices.Equal(told, want) {
			t.Errorf("Bare(%v, %q) is %q, not %q", l, all, told, want)
		}
	}
	bare(nil, nil)
	bare(rules(), nil)
	bare(nil, []string{"a", "A", "b.a", "", "a"}, "a", "b.a", "a")
	bare(rules(), []string{"a", "b.a", "x.a", "y.x.a", "b", "c.b", "e.b", "q.c.b", "d.c.b"}, "b")
	bare(rules(), []string{"b", "z", "z.z", "b", "a", "b", "*.a", "z", "", "b."}, "b", "z", "z.z", "b", "b", "z")
	bare([]api.Rule{allow("a", "x")}, []string{"y.x", "x", "xx", "x.y"}, "y.x", "xx", "x.y")
	bare([]api.Rule{allow("a", "*.x")}, []string{"y.x", "x", "z.y.x", "xx", "y.xx"}, "x", "xx", "y.xx")
	// Rules that may not be match as they are: what is no pattern matches nothing.
	wrong := []api.Rule{{}, refuse("A", "x", "x", "", "*", "*.", "*.*.y", "y..z", "*.A"), allow("", "*.w"), allow("", "x", "*.w")}
	bare(wrong, []string{"x", "y", "q.y", "z", "v.w", "w", "", "*", "y..z", "q.A"}, "y", "q.y", "z", "w")
	for _, l := range append(mayNot(), clashing()...) {
		var want []string
		all := world()
		for _, name := range all {
			if decider([]api.Rule{{Pats: slices.Concat(patsOf(l)...)}}, name) < 0 {
				want = append(want, name)
			}
		}
		bare(l, all, want...)
	}
}

func patsOf(l []api.Rule) [][]string {
	var all [][]string
	for _, r := range l {
		all = append(all, r.Pats)
	}
	return all
}

// world is all names of up to four labels of two letters, and of some others.
func world() []string {
	all := []string{"n0", "n30", "x.n30", "y", "z", "x.y"}
	last := []string{""}
	for range 4 {
		var next []string
		for _, above := range last {
			for _, label := range []string{"a", "x"} {
				next = append(next, strings.TrimSuffix(label+"."+above, "."))
			}
		}
		all, last = append(all, next...), next
	}
	return all
}

// P16.2, P16.5

func TestWhoDecides(t *testing.T) {
	l := rules()
	allowed(t, l, wish("b.a"), 0)
	allowed(t, l, wish("c.b", "y.x.a"), 0, 2)
	refused(t, l, wish("z.x.a"), 0, 1)
	refused(t, l, wish("a"), 0, 3)
	refused(t, l, wish("b"), 0, -1)
	refused(t, l, wish("z"), 0, -1)
	allowed(t, l, wish("x.a"), 0)
	allowed(t, l, wish("z.y.x.a", "q.z.y.x.a"), 2, 2)
	allowed(t, l, wish("a.b", "e.b", "d.c.b", "c.b"), 4, 4, 4, 0)
	refused(t, l, wish("e.c.b"), 0, 3)
	refused(t, l, wish("e.d.c.b"), 0, 3)
	// The nearest of several stars, and a name beside its star.
	l = []api.Rule{allow("r0", "*.a"), refuse("r1", "*.b.a"), allow("r2", "*.c.b.a"), refuse("r3", "*.d.c.b.a"), allow("r4", "d.c.b.a"), refuse("r5", "a"), refuse("r6", "c.b.a")}
	refused(t, l, wish("a"), 0, 5)
	allowed(t, l, wish("x.a", "b.a"), 0, 0)
	refused(t, l, wish("x.b.a"), 0, 1)
	refused(t, l, wish("c.b.a"), 0, 6)
	allowed(t, l, wish("x.c.b.a", "d.c.b.a"), 2, 4)
	refused(t, l, wish("x.d.c.b.a", "y.x.d.c.b.a"), 0, 3, 3)
	refused(t, nil, wish("a", "b.a"), 0, -1, -1)
	// The longest names that there may be.
	l = []api.Rule{allow("r0", "a.a.a.a.a.a.a.b", "*.z.a.a.a.a.a.c"), refuse("r1", "*.a.a.a.a.a.a.b")}
	allowed(t, l, wish("a.a.a.a.a.a.a.b", "q.z.a.a.a.a.a.c"), 0, 0)
	refused(t, l, wish("b.a.a.a.a.a.a.b"), 0, 1)
	refused(t, l, wish("z.a.a.a.a.a.c", "a.a.a.a.a.a.b"), 0, -1, -1)
}

func TestAtIsTheFirst(t *testing.T) {
	l := []api.Rule{allow("r0", "*.a"), refuse("r1", "x.a", "y.a")}
	for _, x := range []struct {
		names []string
		at    int
		by    []int
	}{
		{[]string{"x.a", "b.a"}, 0, []int{1, 0}}, {[]string{"b.a", "x.a"}, 1, []int{0, 1}}, {[]string{"b.a", "x.a", "y.a"}, 1, []int{0, 1, 1}}, {[]string{"b.a", "c.a", "z", "x.a"}, 2, []int{0, 0, -1, 1}}, {[]string{"b.a", "c.a", "x.a", "z"}, 2, []int{0, 0, 1, -1}},
		{[]string{"b.a", "c.a", "d.a", "e.a", "f.a", "g.a", "h.a", "x.a"}, 7, []int{0, 0, 0, 0, 0, 0, 0, 1}}, {[]string{"z", "c.a", "d.a", "e.a", "f.a", "g.a", "h.a", "x.a"}, 0, []int{-1, 0, 0, 0, 0, 0, 0, 1}},
	} {
		refused(t, l, wish(x.names...), x.at, x.by...)
	}
	allowed(t, l, wish("b.a", "c.a", "d.a", "e.a", "f.a", "g.a", "h.a", "i.a"), 0, 0, 0, 0, 0, 0, 0, 0)
}

func TestKeyAndLife(t *testing.T) {
	l := []api.Rule{allow("r0", "a"), {Name: "r1", Allow: true, Pats: []string{"b"}, LifeMax: 1000}, {Name: "r2", Allow: true, Pats: []string{"c"}, KeyMin: api.Q, LifeMax: 1}, refuse("r3", "d")}
	for number, name := range []string{"a", "b", "c", "d"} {
		for _, key := range []uint64{0, 1, 9, 10, 11, api.Q - 1, api.Q, api.Q + 1, math.MaxUint64} {
			for _, life := range []int{0, 1, 2, 89, 90, 91, 999, 1000, 1001, api.MaxTime} {
				r := l[number]
				w := api.Wish{Account: 7, Names: []string{name}, Key: key, Life: life}
				if r.Allow && key >= r.KeyMin && life > 0 && life <= r.LifeMax {
					allowed(t, l, w, number)
				} else {
					refused(t, l, w, 0, number)
				}
			}
		}
	}
	// Each name has to be allowed by its own rule.
	refused(t, l, api.Wish{Names: []string{"b", "a"}, Key: 9, Life: 90}, 1, 1, 0)
	refused(t, l, api.Wish{Names: []string{"b", "a"}, Key: 10, Life: 91}, 1, 1, 0)
	refused(t, l, api.Wish{Names: []string{"b", "a", "c"}, Key: 10, Life: 1}, 2, 1, 0, 2)
	// How many certificates an account may have is not asked.
	l[0].Most, l[0].Window = 1, 1
	for _, account := range []int{0, 1, api.MaxTime - 1, api.MaxTime} {
		allowed(t, l, api.Wish{Account: account, Names: []string{"a", "b"}, Key: 10, Life: 90}, 0, 1)
	}
}

func TestWishesThatMayNotBe(t *testing.T) {
	for _, w := range mayNotWishes() {
		notMeant(t, "no wish", api.ErrArg, rules(), w)
		notDecided(t, "no wish", api.ErrArg, tableOf(rules()), w)
		notMeant(t, "no wish, no rules", api.ErrArg, nil, w)
		notDecided(t, "no wish, no rules", api.ErrArg, tableOf(nil), w)
	}
	for number := 1; number <= 8; number++ {
		all := []string{"a0", "a1", "a2", "a3", "a4", "a5", "a6", "a7"}[:number]
		refused(t, nil, wish(all...), 0, slices.Repeat([]int{-1}, number)...)
	}
}

func TestOrderOfErrors(t *testing.T) {
	for _, w := range append(mayNotWishes(), wish("b.a")) {
		for _, l := range mayNot() {
			notMeant(t, "no rules", api.ErrArg, l, w)
			notDecided(t, "no rules", api.ErrArg, tableOf(l), w)
			notDecided(t, "no rules, other nodes", api.ErrArg, api.Table{Rules: l}, w)
		}
		for _, l := range [][]api.Rule{many(33), append(many(32), allow("more", "n0")), many(50)} {
			notMeant(t, "too many", api.ErrBound, l, w)
			notDecided(t, "too many", api.ErrBound, tableOf(l), w)
			notDecided(t, "too many, other nodes", api.ErrBound, api.Table{Rules: l}, w)
		}
		for _, l := range clashing() {
			notMeant(t, "they clash", api.ErrClash, l, w)
			notDecided(t, "they clash", api.ErrClash, tableOf(l), w)
			notDecided(t, "they clash, other nodes", api.ErrClash, api.Table{Rules: l}, w)
		}
		for _, x := range otherTables() {
			notDecided(t, "other nodes", api.ErrArg, x, w)
		}
	}
}

// all rules of a small world, by the chapter's words.
func TestOfAllNames(t *testing.T) {
	pats := []string{"a", "x", "a.a", "x.a", "x.x", "a.x.a", "x.a.x.a", "*.a", "*.x", "*.a.a", "*.x.a", "*.x.x", "*.a.x.a", "*.x.a.x.a", "*.a.a.a"}
	for mask := range 1 << len(pats) {
		if mask%37 != 5 {
			continue
		}
		var l []api.Rule
		for k, pat := range pats {
			number := slices.IndexFunc(l, func(r api.Rule) bool { return r.Name == "r"+strconv.Itoa((k*mask)%4) })
			switch {
			case mask>>k&1 == 0:
			case number >= 0:
				l[number].Pats = append(l[number].Pats, pat)
			case mask>>(k/2)&1 == 0:
				l = append(l, allow("r"+strconv.Itoa((k*mask)%4), pat))
			default:
				l = append(l, refuse("r"+strconv.Itoa((k*mask)%4), pat))
			}
		}
		if slices.ContainsFunc(l, func(r api.Rule) bool { return len(r.Pats) > 8 }) {
			continue
		}
		compiled(t, tableOf(l), l)
		for part := range slices.Chunk(world(), 8) {
			said(t, verdictOf(l, wish(part...)), l, wish(part...))
		}
	}
}

// P16.3

func TestCompile(t *testing.T) {
	compiled(t, api.Table{Nodes: []api.Node{{Here: -1, Below: -1}}}, nil)
	compiled(t, api.Table{Rules: rules()[:2], Nodes: []api.Node{
		{Here: -1, Below: -1, Kids: []int{1, 2}}, {Label: "a", Here: -1, Below: 0, Kids: []int{4}}, {Label: "b", Here: -1, Below: -1, Kids: []int{3}}, {Label: "c", Here: 0, Below: -1}, {Label: "x", Here: -1, Below: 1},
	}}, rules()[:2])
	l := []api.Rule{refuse("r0", "c.b.a"), allow("r1", "b.a", "*.c.b.a", "d.c.b.a"), refuse("r2", "*.a", "b", "e.b.a", "a")}
	compiled(t, api.Table{Rules: l, Nodes: []api.Node{
		{Here: -1, Below: -1, Kids: []int{1, 5}}, {Label: "a", Here: 2, Below: 2, Kids: []int{2}}, {Label: "b", Here: 1, Below: -1, Kids: []int{3, 6}}, {Label: "c", Here: 0, Below: 1, Kids: []int{4}}, {Label: "d", Here: 1, Below: -1}, {Label: "b", Here: 2, Below: -1}, {Label: "e", Here: 2, Below: -1},
	}}, l)
	for number := range 33 {
		compiled(t, tableOf(many(number)), many(number))
	}
	// Kids stand as they were made, not by their labels.
	l = []api.Rule{allow("r0", "z", "m", "a", "q.m", "b.m"), allow("r1", "*.k", "a.m")}
	compiled(t, api.Table{Rules: l, Nodes: []api.Node{
		{Here: -1, Below: -1, Kids: []int{1, 2, 3, 6}}, {Label: "z", Here: 0, Below: -1}, {Label: "m", Here: 0, Below: -1, Kids: []int{4, 5, 7}}, {Label: "a", Here: 0, Below: -1}, {Label: "q", Here: 0, Below: -1}, {Label: "b", Here: 0, Below: -1}, {Label: "k", Here: -1, Below: 1}, {Label: "a", Here: 1, Below: -1},
	}}, l)
	l = []api.Rule{allow("r0", "a.a.a.a.a.a.a.b", "*.b.a.a.a.a.a.b")}
	compiled(t, tableOf(l), l)
}

func TestCompileOfWhatMayNotBe(t *testing.T) {
	for _, l := range mayNot() {
		notCompiled(t, api.ErrArg, l)
		checked(t, api.ErrArg, tableOf(l))
		checked(t, api.ErrArg, api.Table{Rules: l})
	}
	for _, l := range [][]api.Rule{many(33), append(many(32), allow("more", "n0"))} {
		notCompiled(t, api.ErrBound, l)
		checked(t, api.ErrBound, tableOf(l))
		checked(t, api.ErrBound, api.Table{Rules: l})
	}
	for _, l := range clashing() {
		notCompiled(t, api.ErrClash, l)
		checked(t, api.ErrClash, tableOf(l))
		checked(t, api.ErrClash, api.Table{Rules: l})
	}
}

// P16.4

// otherTables are tables whose nodes are others than they have to be.
func otherTables() []api.Table {
	l := []api.Table{{}, {Rules: rules()}, {Rules: rules(), Nodes: tableOf(nil).Nodes}, {Nodes: tableOf(rules()).Nodes}, {Rules: rules()[:4], Nodes: tableOf(rules()).Nodes}, {Rules: many(5), Nodes: tableOf(many(4)).Nodes}}
	other := func(change func(x *api.Table)) {
		x := tableOf(rules())
		change(&x)
		l = append(l, x)
	}
	for at := range tableOf(rules()).Nodes {
		other(func(x *api.Table) { x.Nodes[at].Label += "a" })
		other(func(x *api.Table) { x.Nodes[at].Here++ })
		other(func(x *api.Table) { x.Nodes[at].Here = -2 })
		other(func(x *api.Table) { x.Nodes[at].Below++ })
		other(func(x *api.Table) { x.Nodes[at].Below = math.MaxInt })
		other(func(x *api.Table) { x.Nodes[at].Kids = append(x.Nodes[at].Kids, 0) })
		other(func(x *api.Table) { x.Nodes[at].Kids = append(x.Nodes[at].Kids, 1000) })
		other(func(x *api.Table) { x.Nodes = x.Nodes[:at] })
		other(func(x *api.Table) { x.Nodes = slices.Insert(x.Nodes, at, api.Node{Here: -1, Below: -1}) })
		if len(tableOf(rules()).Nodes[at].Kids) > 0 {
			other(func(x *api.Table) { x.Nodes[at].Kids[0] = -1 })
			other(func(x *api.Table) { x.Nodes[at].Kids = x.Nodes[at].Kids[1:] })
		}
		if len(tableOf(rules()).Nodes[at].Kids) > 1 {
			other(func(x *api.Table) { slices.Reverse(x.Nodes[at].Kids) })
		}
	}
	other(func(x *api.Table) { x.Nodes = append(x.Nodes, api.Node{Here: -1, Below: -1}) })
	other(func(x *api.Table) { slices.Reverse(x.Nodes) })
	// The same rules in another order have another table.
	other(func(x *api.Table) { slices.Reverse(x.Rules) })
	other(func(x *api.Table) { slices.Reverse(x.Rules[0].Pats) })
	return l
}

func TestCheck(t *testing.T) {
	for _, x := range otherTables() {
		checked(t, api.ErrArg, x)
	}
	// What does not make other nodes is not asked.
	x := tableOf(rules())
	x.Rules[0].LifeMax, x.Rules[1].Name = 5, "other"
	checked(t, api.OK, x)
	x.Nodes[len(x.Nodes)-1].Kids = []int{}
	checked(t, api.OK, x)
	x.Rules[0].LifeMax = 0
	checked(t, api.ErrArg, x)
}

// P16.6

func TestRulesInAnotherOrder(t *testing.T) {
	orders := [][]int{{4, 3, 2, 1, 0}, {1, 0, 2, 4, 3}, {2, 4, 0, 3, 1}, {3, 2, 4, 1, 0}}
	all := append(world(), "c.b", "d.c.b", "e.c.b", "b", "e.b", "y.x.a", "z.y.x.a", "z.x.a", "q")
	for _, order := range orders {
		var l []api.Rule
		for _, number := range order {
			l = append(l, rules()[number])
		}
		for _, name := range all {
			v, _ := policy.Means(rules(), wish(name))
			if v.By[0] >= 0 {
				v.By[0] = slices.Index(order, v.By[0])
			}
			said(t, v, l, wish(name))
		}
	}
}

func TestWhatWasCompiledDecidesAsMeant(t *testing.T) {
	for _, l := range [][]api.Rule{nil, rules(), many(32)} {
		x, e := policy.Compile(l)
		if e != api.OK || policy.Check(x) != api.OK {
			t.Fatalf("Compile(%v) tells %d", l, e)
		}
		for part := range slices.Chunk(world(), 7) {
			for _, key := range []uint64{9, 10} {
				w := api.Wish{Names: part, Key: key, Life: 90}
				meant, _ := policy.Means(l, w)
				if v, e := policy.Decide(x, w); !sameVerdict(v, meant) || e != api.OK {
					t.Errorf("Decide(%v, %v) is %v, %d, not %v", x, w, v, e, meant)
				}
			}
		}
	}
}

// R2, R6

func TestNothingIsChangedOrShared(t *testing.T) {
	l, w := rules(), wish("b.a", "q")
	x, _ := policy.Compile(l)
	was := copiedTable(x)
	v, _ := policy.Means(l, w)
	v2, _ := policy.Decide(x, w)
	pairs := policy.Clash(l)
	all := []string{"q", "b.a"}
	bare := policy.Bare(l, all)
	if !slices.EqualFunc(l, rules(), sameRule) || !slices.Equal(w.Names, wish("b.a", "q").Names) || !sameTable(x, was) || !slices.Equal(all, []string{"q", "b.a"}) {
		t.Error("what is handed in is changed")
	}
	for k := range l {
		clear(l[k].Pats)
	}
	clear(l)
	clear(all)
	clear(w.Names)
	if !sameTable(x, was) || !slices.Equal(bare, []string{"q"}) || len(pairs) != 0 || !slices.Equal(v.By, []int{0, -1}) || !slices.Equal(v2.By, []int{0, -1}) {
		t.Error("what was told changes with what was handed in")
	}
	l = rules()
	x, _ = policy.Compile(l)
	for k := range x.Rules {
		clear(x.Rules[k].Pats)
	}
	clear(x.Rules)
	for k := range x.Nodes {
		clear(x.Nodes[k].Kids[:cap(x.Nodes[k].Kids)])
	}
	if !slices.EqualFunc(l, rules(), sameRule) {
		t.Error("what was handed in changes with what was told")
	}
}

// The chapter's example

func TestExample(t *testing.T) {
	l := []api.Rule{allow("first", "*.a"), refuse("second", "*.x.a"), allow("third", "y.x.a")}
	allowed(t, l, wish("b.a"), 0)
	refused(t, l, wish("z.x.a"), 0, 1)
	allowed(t, l, wish("y.x.a"), 2)
	refused(t, l, wish("a"), 0, -1)
}
