package budget_test

import (
	"cmp"
	"math"
	"slices"
	"testing"

	"greatseal/api"
	"greatseal/budget"
)

func rule(most, window int) api.Rule { return api.Rule{Most: most, Window: window} }

func spent(account, number, since, many int) api.Spent {
	return api.Spent{Account: account, Rule: number, Since: since, Many: many}
}

// some is what several accounts have spent by several rules.
func some() []api.Spent {
	return []api.Spent{spent(0, 0, 5, 2), spent(0, 31, 5, 1), spent(3, 1, 100, 4), spent(3, 2, 0, api.MaxTime), spent(api.MaxTime, 0, api.MaxTime, 1)}
}

func many(number int) []api.Spent {
	var l []api.Spent
	for k := range number {
		l = append(l, spent(10+k/32, k%32, 5, 2))
	}
	return l
}

func noNumbers() []int {
	return []int{math.MinInt, -2, -1, api.MaxTime + 1, api.MaxTime + 2, math.MaxInt}
}

func noRuleNumbers() []int {
	return []int{math.MinInt, -2, -1, 32, 33, 1 << 32, api.MaxTime, math.MaxInt}
}

// noRules may not be, whatever else they are.
func noRules() []api.Rule {
	l := []api.Rule{rule(1, 0), rule(api.MaxTime, 0), rule(1, -1), rule(-1, 1), rule(-1, -1), rule(math.MinInt, 0), rule(0, -1), rule(0, math.MinInt)}
	for _, n := range noNumbers() {
		l = append(l, rule(n, 5), rule(n, 0), rule(0, n), rule(1, n))
	}
	return l
}

// mayNot may not be, because of something else than how many they are.
func mayNot() [][]api.Spent {
	var all [][]api.Spent
	other := func(change func(s *api.Spent)) {
		for at := range some() {
			l := some()
			change(&l[at])
			all = append(all, l)
		}
		s := spent(3, 3, 3, 3)
		change(&s)
		all = append(all, []api.Spent{s})
	}
	for _, n := range noNumbers() {
		other(func(s *api.Spent) { s.Account = n })
		other(func(s *api.Spent) { s.Since = n })
		other(func(s *api.Spent) { s.Many = n })
	}
	for _, n := range noRuleNumbers() {
		other(func(s *api.Spent) { s.Rule = n })
	}
	other(func(s *api.Spent) { s.Many = 0 })
	for at := range len(some()) - 1 {
		l := some()
		l[at], l[at+1] = l[at+1], l[at]
		all = append(all, l, slices.Insert(some(), at, some()[at]))
	}
	return append(all,
		[]api.Spent{spent(1, 1, 1, 1), spent(1, 1, 2, 2)}, []api.Spent{spent(1, 2, 1, 1), spent(1, 1, 1, 1)}, []api.Spent{spent(2, 1, 1, 1), spent(1, 2, 1, 1)}, []api.Spent{spent(0, 0, 1, 1), spent(0, 2, 1, 1), spent(0, 1, 1, 1)},
	)
}

func tooMany() [][]api.Spent { return [][]api.Spent{many(1025), many(1026), many(5000)} }

// wrong are too many, one of which may not be.
func wrong() []api.Spent {
	l := many(1100)
	l[1099].Many = 0
	return l
}

// asked is a question that is asked of what was spent.
type asked struct {
	l                  []api.Spent
	r                  api.Rule
	rule, account, now int
}

func (a asked) left(t *testing.T, what string, want int) {
	t.Helper()
	if n := budget.Left(a.l, a.r, a.rule, a.account, a.now); n != want {
		t.Errorf("%s: Left(%v) is %d, not %d", what, a, n, want)
	}
}

func (a asked) spent(t *testing.T, what string, want []api.Spent) {
	t.Helper()
	if l, e := budget.Spend(a.l, a.r, a.rule, a.account, a.now); !slices.Equal(l, want) || e != api.OK {
		t.Errorf("%s: Spend(%v) is %v, %d, not %v", what, a, l, e, want)
	}
	if e := budget.Check(want); e != api.OK {
		t.Errorf("%s: what Spend is to tell may not be", what)
	}
}

func (a asked) notSpent(t *testing.T, what string, want api.Errno) {
	t.Helper()
	if l, e := budget.Spend(a.l, a.r, a.rule, a.account, a.now); len(l) != 0 || e != want {
		t.Errorf("%s: Spend(%v) is %v, %d, not %d", what, a, l, e, want)
	}
}

// refused is told of what is asked wrongly.
func (a asked) refused(t *testing.T, what string, want api.Errno) {
	t.Helper()
	a.left(t, what, 0)
	a.notSpent(t, what, want)
}

func checked(t *testing.T, want api.Errno, l []api.Spent) {
	t.Helper()
	if e := budget.Check(l); e != want {
		t.Errorf("Check(%v) is %d, not %d", l, e, want)
	}
}

func allSpent(t *testing.T, what string, want, l []api.Spent, rules []api.Rule, by []int, account, now int) {
	t.Helper()
	if told, e := budget.All(l, rules, by, account, now); !slices.Equal(told, want) || e != api.OK {
		t.Errorf("%s: All(%v, %v, %v, %d, %d) is %v, %d, not %v", what, l, rules, by, account, now, told, e, want)
	}
}

func notAllSpent(t *testing.T, what string, want api.Errno, l []api.Spent, rules []api.Rule, by []int, account, now int) {
	t.Helper()
	if told, e := budget.All(l, rules, by, account, now); len(told) != 0 || e != want {
		t.Errorf("%s: All(%v, %v, %v, %d, %d) is %v, %d, not %d", what, l, rules, by, account, now, told, e, want)
	}
}

// with is what there is, with one in its place.
func with(l []api.Spent, s api.Spent) []api.Spent {
	l = slices.DeleteFunc(slices.Clone(l), func(other api.Spent) bool { return other.Account == s.Account && other.Rule == s.Rule })
	l = append(l, s)
	slices.SortFunc(l, func(a, b api.Spent) int { return cmp.Or(cmp.Compare(a.Account, b.Account), a.Rule-b.Rule) })
	return l
}

// P17.1

func TestCheck(t *testing.T) {
	for _, l := range [][]api.Spent{nil, {}, some(), many(1), many(1023), many(1024), {spent(0, 0, 0, 1)}, {spent(api.MaxTime, 31, api.MaxTime, api.MaxTime)}, {spent(1, 2, 5, 1), spent(2, 1, 4, 1)}} {
		checked(t, api.OK, l)
	}
	for _, l := range append(mayNot(), wrong()) {
		checked(t, api.ErrArg, l)
	}
	for _, l := range tooMany() {
		checked(t, api.ErrBound, l)
	}
}

// P17.2

func TestLeft(t *testing.T) {
	for _, x := range []struct {
		r                  api.Rule
		rule, account, now int
		want               int
	}{
		{rule(2, 10), 0, 0, 5, 0}, {rule(3, 10), 0, 0, 5, 1}, {rule(1, 10), 0, 0, 5, 0}, {rule(api.MaxTime, 10), 0, 0, 5, api.MaxTime - 2}, {rule(9, 10), 0, 0, 14, 7}, {rule(9, 10), 0, 0, 15, 9}, {rule(9, 10), 0, 0, 16, 9}, {rule(2, 10), 0, 0, 15, 2}, {rule(1, 10), 0, 0, 15, 1},
		{rule(9, 1), 0, 0, 5, 7}, {rule(9, 1), 0, 0, 6, 9}, {rule(9, 1), 0, 0, 4, 7}, {rule(9, 1), 0, 0, 0, 7}, {rule(9, api.MaxTime), 0, 0, api.MaxTime, 7}, {rule(9, api.MaxTime), 3, 1, api.MaxTime, 9}, {rule(9, 10), 31, 0, 5, 8}, {rule(9, 10), 1, 0, 5, 9}, {rule(9, 10), 0, 1, 5, 9}, {rule(9, 10), 0, 3, 5, 9},
		{rule(9, 10), 1, 3, 0, 5}, {rule(9, 10), 1, 3, 99, 5}, {rule(9, 10), 1, 3, 100, 5}, {rule(9, 10), 1, 3, 109, 5}, {rule(9, 10), 1, 3, 110, 9}, {rule(4, 10), 1, 3, 109, 0}, {rule(3, 10), 1, 3, 109, 0}, {rule(1, 10), 1, 3, 110, 1},
		{rule(api.MaxTime, 1), 2, 3, 0, 0}, {rule(api.MaxTime, 1), 2, 3, 1, api.MaxTime}, {rule(5, api.MaxTime), 2, 3, api.MaxTime - 1, 0}, {rule(5, api.MaxTime), 2, 3, api.MaxTime, 5}, {rule(5, 3), 0, api.MaxTime, 0, 4}, {rule(5, 3), 0, api.MaxTime, api.MaxTime, 4}, {rule(5, 3), 31, api.MaxTime, api.MaxTime, 5},
	} {
		asked{some(), x.r, x.rule, x.account, x.now}.left(t, "some", x.want)
	}
	asked{nil, rule(5, 1), 0, 0, 0}.left(t, "none", 5)
	for at, s := range many(1024) {
		asked{many(1024), rule(at+1, 10), s.Rule, s.Account, 5}.left(t, "many", max(0, at-1))
	}
}

func TestRulesThatDoNotLimit(t *testing.T) {
	for _, window := range []int{0, 1, api.MaxTime} {
		for _, l := range [][]api.Spent{nil, some(), many(1024)} {
			for _, account := range []int{0, 3, 10, api.MaxTime} {
				for _, number := range []int{0, 1, 2, 31} {
					for _, now := range []int{0, 5, api.MaxTime} {
						a := asked{l, rule(0, window), number, account, now}
						a.left(t, "does not limit", api.MaxTime)
						a.spent(t, "does not limit", l)
					}
				}
			}
		}
	}
}

// What a rule says beside Most and Window is not asked.
func TestOtherThingsOfARule(t *testing.T) {
	r := api.Rule{Name: "-A", Pats: []string{"", ""}, KeyMin: math.MaxUint64, LifeMax: -1, Most: 3, Window: 10}
	for _, r.Allow = range []bool{false, true} {
		a := asked{some(), r, 0, 0, 6}
		a.left(t, "whatever else", 1)
		a.spent(t, "whatever else", with(some(), spent(0, 0, 5, 3)))
	}
}

func TestWhatMayNotBe(t *testing.T) {
	right := asked{some(), rule(9, 10), 0, 0, 5}
	try := func(what string, want api.Errno, change func(a *asked)) {
		t.Helper()
		for _, r := range []api.Rule{right.r, rule(1, 10), rule(0, 0)} {
			a := right
			a.r = r
			change(&a)
			a.refused(t, what, want)
		}
	}
	for _, r := range noRules() {
		a := right
		a.r = r
		a.refused(t, "no rule", api.ErrArg)
		a.l = nil
		a.refused(t, "no rule, none", api.ErrArg)
	}
	for _, n := range noNumbers() {
		try("no account", api.ErrArg, func(a *asked) { a.account = n })
		try("no time", api.ErrArg, func(a *asked) { a.now = n })
	}
	for _, n := range noRuleNumbers() {
		try("no rule's number", api.ErrArg, func(a *asked) { a.rule = n })
	}
	for _, change := range []func(a *asked){func(a *asked) {}, func(a *asked) { a.r = rule(1, 0) }, func(a *asked) { a.rule = 32 }, func(a *asked) { a.account = -1 }, func(a *asked) { a.now = -1 }} {
		for _, l := range append(mayNot(), wrong()) {
			try("may not be", api.ErrArg, func(a *asked) { change(a); a.l = l })
		}
		for _, l := range tooMany() {
			try("too many", api.ErrBound, func(a *asked) { change(a); a.l = l })
		}
	}
}

// P17.3

func TestSpend(t *testing.T) {
	for _, x := range []struct {
		r                  api.Rule
		rule, account, now int
		since, many        int
	}{
		{rule(3, 10), 0, 0, 5, 5, 3}, {rule(3, 10), 0, 0, 14, 5, 3}, {rule(3, 10), 0, 0, 15, 15, 1}, {rule(1, 10), 0, 0, 15, 15, 1}, {rule(3, 10), 0, 0, 16, 16, 1}, {rule(3, 10), 0, 0, 0, 5, 3}, {rule(3, 1), 0, 0, 4, 5, 3}, {rule(3, 1), 0, 0, 5, 5, 3}, {rule(3, 1), 0, 0, 6, 6, 1}, {rule(3, api.MaxTime), 0, 0, api.MaxTime, 5, 3},
		{rule(2, 10), 31, 0, 7, 5, 2}, {rule(9, 10), 1, 0, 7, 7, 1}, {rule(9, 10), 30, 0, 7, 7, 1}, {rule(9, 10), 0, 1, 7, 7, 1}, {rule(9, 10), 31, 2, 7, 7, 1}, {rule(9, 10), 0, 3, 7, 7, 1}, {rule(9, 10), 1, 3, 7, 100, 5}, {rule(9, 10), 3, 3, 7, 7, 1}, {rule(9, 10), 0, 4, 7, 7, 1}, {rule(1, 1), 31, api.MaxTime, 0, 0, 1}, {rule(2, 1), 0, api.MaxTime, 0, api.MaxTime, 2}, {rule(2, 1), 0, api.MaxTime, api.MaxTime, api.MaxTime, 2}, {rule(9, 10), 0, api.MaxTime - 1, api.MaxTime, api.MaxTime, 1},
		{rule(api.MaxTime, 1), 2, 3, 1, 1, 1}, {rule(1, api.MaxTime), 2, 3, api.MaxTime, api.MaxTime, 1},
	} {
		asked{some(), x.r, x.rule, x.account, x.now}.spent(t, "some", with(some(), spent(x.account, x.rule, x.since, x.many)))
		if !slices.ContainsFunc(some(), func(s api.Spent) bool { return s.Account == x.account && s.Rule == x.rule }) {
			asked{nil, x.r, x.rule, x.account, x.now}.spent(t, "none", []api.Spent{spent(x.account, x.rule, x.now, 1)})
		}
	}
	l := []api.Spent{spent(0, 0, 5, api.MaxTime-1)}
	asked{l, rule(api.MaxTime, 1), 0, 0, 5}.spent(t, "the last one", []api.Spent{spent(0, 0, 5, api.MaxTime)})
}

func TestNothingLeft(t *testing.T) {
	for _, x := range []struct {
		r                  api.Rule
		rule, account, now int
	}{{rule(2, 10), 0, 0, 5}, {rule(2, 10), 0, 0, 14}, {rule(1, 10), 0, 0, 14}, {rule(2, 10), 0, 0, 0}, {rule(1, 1), 31, 0, 5}, {rule(4, 10), 1, 3, 109}, {rule(3, 10), 1, 3, 109}, {rule(api.MaxTime, 1), 2, 3, 0}, {rule(1, 1), 0, api.MaxTime, api.MaxTime}} {
		asked{some(), x.r, x.rule, x.account, x.now}.refused(t, "nothing left", api.ErrSpent)
	}
	asked{many(1024), rule(2, 10), 7, 10, 5}.refused(t, "nothing left of many", api.ErrSpent)
}

func TestTooManyToSpend(t *testing.T) {
	full := many(1024)
	for _, x := range []struct{ rule, account int }{{0, 0}, {31, 9}, {0, 42}, {31, api.MaxTime}} {
		a := asked{full, rule(5, 10), x.rule, x.account, 7}
		a.left(t, "full", 5)
		a.notSpent(t, "full", api.ErrBound)
		a.l = full[:1023]
		a.spent(t, "room for one", with(full[:1023], spent(x.account, x.rule, 7, 1)))
	}
	for at, s := range full {
		if at%31 != 0 {
			continue
		}
		asked{full, rule(3, 10), s.Rule, s.Account, 7}.spent(t, "one of many", with(full, spent(s.Account, s.Rule, 5, 3)))
		asked{full, rule(3, 10), s.Rule, s.Account, 15}.spent(t, "one of many begins again", with(full, spent(s.Account, s.Rule, 15, 1)))
	}
}

// P17.4

func TestAll(t *testing.T) {
	rules := []api.Rule{rule(3, 10), rule(0, 0), rule(1, 10), rule(5, 1)}
	all := func(by []int, want ...api.Spent) {
		t.Helper()
		l := some()
		for _, s := range want {
			l = with(l, s)
		}
		allSpent(t, "some", l, some(), rules, by, 0, 7)
	}
	first, third, fourth := spent(0, 0, 5, 3), spent(0, 2, 7, 1), spent(0, 3, 7, 1)
	all(nil)
	all([]int{})
	all([]int{-1})
	all([]int{-1, -1, -1})
	all([]int{0}, first)
	all([]int{1})
	all([]int{2}, third)
	all([]int{3}, fourth)
	all([]int{0, 1, 2, 3}, first, third, fourth)
	all([]int{3, 2, 1, 0}, first, third, fourth)
	all([]int{3, -1, 0}, first, fourth)
	all([]int{0, 0, 0, 0}, first)
	all([]int{2, 0, 2, -1, 0, 2, -1}, first, third)
	all([]int{1, 1, -1})
	allSpent(t, "no rules", some(), some(), nil, []int{-1}, 0, 7)
	allSpent(t, "no rules, none", nil, nil, nil, nil, 0, 7)
	allSpent(t, "no rules of by", some(), some(), []api.Rule{rule(-1, -1)}, []int{-1}, 0, 7)
	// Rules that do not stand in by are not asked.
	allSpent(t, "others", with(some(), third), some(), []api.Rule{rule(1, 0), rule(-1, 5), rule(1, 10), rule(1, 0)}, []int{2}, 0, 7)
	many := slices.Repeat([]api.Rule{rule(1, 10)}, 40)
	allSpent(t, "the last number", []api.Spent{spent(4, 0, 7, 1), spent(4, 31, 7, 1)}, nil, many, []int{31, 0}, 4, 7)
	notAllSpent(t, "no rule's number", api.ErrArg, nil, many, []int{32, 0}, 4, 7)
	notAllSpent(t, "no rule's number", api.ErrArg, nil, many, []int{39}, 4, 7)
}

func TestAllOfWhatMayNotBe(t *testing.T) {
	rules := []api.Rule{rule(3, 10), rule(5, 10), rule(0, 0)}
	for _, place := range []int{math.MinInt, -3, -2, 3, 4, 31, 32, math.MaxInt} {
		for _, by := range [][]int{{place}, {0, place}, {place, 0}, {-1, 1, place, -1}} {
			notAllSpent(t, "no place", api.ErrArg, some(), rules, by, 0, 7)
		}
	}
	notAllSpent(t, "no place", api.ErrArg, some(), nil, []int{0}, 0, 7)
	for _, n := range noNumbers() {
		for _, by := range [][]int{nil, {-1}, {0}, {2}, {0, 1, 2}} {
			notAllSpent(t, "no account", api.ErrArg, some(), rules, by, n, 7)
			notAllSpent(t, "no time", api.ErrArg, some(), rules, by, 0, n)
		}
	}
	for _, by := range [][]int{nil, {-1}, {0}, {3}, {-2}} {
		for _, account := range []int{0, -1} {
			for _, l := range append(mayNot(), wrong()) {
				notAllSpent(t, "may not be", api.ErrArg, l, rules, by, account, 7)
			}
			for _, l := range tooMany() {
				notAllSpent(t, "too many", api.ErrBound, l, rules, by, account, 7)
			}
		}
	}
	for _, r := range noRules() {
		notAllSpent(t, "no rule", api.ErrArg, some(), []api.Rule{r}, []int{0}, 0, 7)
		notAllSpent(t, "no rule behind another one", api.ErrArg, some(), []api.Rule{rule(3, 10), r, rule(2, 3)}, []int{2, 1, 0}, 0, 7)
	}
}

func TestTheFirstErrorOfAll(t *testing.T) {
	full := many(1023)
	none, ok, no := rule(2, 10), rule(9, 10), rule(1, 0)
	// Of the account 10 each rule has 2 already; of 50 there is room for one rule more.
	for _, x := range []struct {
		rules   []api.Rule
		by      []int
		account int
		want    api.Errno
	}{
		{[]api.Rule{ok, none, no}, []int{0, 1, 2}, 10, api.ErrSpent}, {[]api.Rule{ok, none, no}, []int{2, 1, 0}, 10, api.ErrSpent}, {[]api.Rule{ok, no, none}, []int{0, 1, 2}, 10, api.ErrArg}, {[]api.Rule{ok, no, none}, []int{2, 1}, 10, api.ErrArg}, {[]api.Rule{ok, no, none}, []int{2, 0}, 10, api.ErrSpent}, {[]api.Rule{none, ok, ok}, []int{1, 0, 2}, 10, api.ErrSpent}, {[]api.Rule{ok, ok, none}, []int{2, 1, 0}, 10, api.ErrSpent},
		{[]api.Rule{ok, ok, no}, []int{0, 1, 2}, 50, api.ErrBound}, {[]api.Rule{ok, no, ok}, []int{0, 1, 2}, 50, api.ErrArg}, {[]api.Rule{ok, ok}, []int{1, 0}, 50, api.ErrBound},
	} {
		notAllSpent(t, "the first error", x.want, full, x.rules, x.by, x.account, 7)
	}
	allSpent(t, "room for one", with(full, spent(50, 1, 7, 1)), full, []api.Rule{ok, ok, no}, []int{1}, 50, 7)
}

// P17.5

func TestNoMoreThanMostInAWindow(t *testing.T) {
	for _, r := range []api.Rule{rule(1, 1), rule(1, 7), rule(2, 10), rule(3, 5), rule(5, 3)} {
		var l []api.Spent
		since, had := -100, 0
		for now := range 60 {
			for range 2 {
				if now-since >= r.Window {
					since, had = now, 0
				}
				asked{l, r, 4, 7, now}.left(t, "in the window", r.Most-had)
				if had == r.Most {
					asked{l, r, 4, 7, now}.notSpent(t, "all of it was had", api.ErrSpent)
					continue
				}
				had++
				asked{l, r, 4, 7, now}.spent(t, "in the window", []api.Spent{spent(7, 4, since, had)})
				l, _ = budget.Spend(l, r, 4, 7, now)
			}
		}
	}
}

func TestOthersAreNotSpent(t *testing.T) {
	l := many(64)
	for _, s := range l {
		told, e := budget.Spend(l, rule(3, 10), s.Rule, s.Account, 9)
		if e != api.OK {
			t.Fatalf("Spend tells %d", e)
		}
		for _, other := range l {
			want := 1
			if other == s {
				want = 0
			}
			asked{told, rule(3, 10), other.Rule, other.Account, 9}.left(t, "others", want)
		}
	}
}

// R2, R6

func TestNothingIsChangedOrShared(t *testing.T) {
	rules := []api.Rule{rule(3, 10), rule(9, 10), rule(0, 0)}
	for k, call := range []func(l []api.Spent) []api.Spent{
		func(l []api.Spent) []api.Spent { l, _ = budget.Spend(l, rule(3, 10), 0, 0, 7); return l },
		func(l []api.Spent) []api.Spent { l, _ = budget.Spend(l, rule(3, 10), 0, 0, 70); return l },
		func(l []api.Spent) []api.Spent { l, _ = budget.Spend(l, rule(3, 10), 7, 0, 7); return l },
		func(l []api.Spent) []api.Spent {
			l, _ = budget.Spend(l, rule(3, 10), 31, api.MaxTime, 7)
			return l
		},
		func(l []api.Spent) []api.Spent { l, _ = budget.Spend(l, rule(0, 0), 0, 0, 7); return l },
		func(l []api.Spent) []api.Spent { l, _ = budget.All(l, rules, []int{0, 1, 2}, 0, 7); return l },
		func(l []api.Spent) []api.Spent { l, _ = budget.All(l, rules, []int{2}, 0, 7); return l },
		func(l []api.Spent) []api.Spent { l, _ = budget.All(l, rules, nil, 0, 7); return l },
	} {
		l := append(some(), spent(-1, -1, -1, -1), spent(-2, -2, -2, -2))[:len(some())]
		told := call(l)
		was := slices.Clone(told)
		if !slices.Equal(l, some()) || l[:len(l)+1][len(l)] != spent(-1, -1, -1, -1) {
			t.Errorf("call %d changes what is handed in", k)
		}
		clear(l[:cap(l)])
		if !slices.Equal(told, was) {
			t.Errorf("what call %d has told changes with what was handed in", k)
		}
		l = append(some(), api.Spent{}, api.Spent{})[:len(some())]
		told = call(l)
		clear(told[:cap(told)])
		if !slices.Equal(l, some()) {
			t.Errorf("what was handed in changes with what call %d has told", k)
		}
	}
	by := []int{2, 0, 0, -1, 1}
	budget.All(some(), rules, by, 0, 7)
	if !slices.Equal(by, []int{2, 0, 0, -1, 1}) {
		t.Error("All changes by")
	}
}

// The chapter's example

func TestExample(t *testing.T) {
	var l []api.Spent
	for _, x := range []struct {
		now, left int
		e         api.Errno
	}{{5, 2, api.OK}, {6, 1, api.OK}, {7, 0, api.ErrSpent}, {15, 2, api.OK}} {
		if left := budget.Left(l, rule(2, 10), 0, 1, x.now); left != x.left {
			t.Errorf("Left at %d is %d, not %d", x.now, left, x.left)
		}
		told, e := budget.Spend(l, rule(2, 10), 0, 1, x.now)
		if e != x.e {
			t.Errorf("Spend at %d tells %d, not %d", x.now, e, x.e)
		}
		if e == api.OK {
			l = told
		}
	}
}
