package names_test

import (
	"regexp"
	"slices"
	"strings"
	"testing"

	"greatseal/api"
	"greatseal/names"
)

var labelForm = regexp.MustCompile(`^([a-z0-9]|[a-z0-9_][a-z0-9-]{0,14}[a-z0-9])$`)

// isName is what the chapter says of a name.
func isName(s string) bool {
	l := strings.Split(s, ".")
	return len(s) <= 64 && len(l) <= 8 && !slices.ContainsFunc(l, func(label string) bool { return !labelForm.MatchString(label) })
}

func isPattern(s string) bool {
	if isName(s) {
		return true
	}
	of, ok := strings.CutPrefix(s, "*.")
	return ok && isName(of) && len(of) <= 62 && strings.Count(of, ".") < 7
}

// isUnder is asked of two names.
func isUnder(s, apex string) bool { return s == apex || isBelow(s, apex) }

func isBelow(s, apex string) bool { return strings.HasSuffix(s, "."+apex) }

// label is one of so many bytes.
func label(length int) string { return strings.Repeat("x1-y", 5)[:length-1] + "z" }

// long is a name of so many bytes: all its labels but the first one have 15.
func long(length int) string {
	s := label(15)
	for len(s)+18 <= length {
		s = label(15) + "." + s
	}
	return label(length-len(s)-1) + "." + s
}

// of is a name of so many labels.
func of(labels int) string { return strings.Repeat("a.", labels-1) + "b" }

func someNames() []string {
	return []string{
		"a", "z", "0", "9", "b", "ab", "a0", "0a", "a-b", "a--b", "_a", "_0", "_a-b", "_acme", "x1--2y", label(2), label(15), label(16), "_" + label(15),
		"a.b", "a.b.c", "b.c", "c", "x.a.b", "y.x.a.b", "ab.c", "a.bc", "_a._b._c", "_a.b", "0.1.2.3", "a-b.c-d", "aa.a.aa", "a.a.a",
		of(2), of(7), of(8), "_a." + of(7), label(16) + "." + label(16), long(61), long(62), long(63), long(64), "a." + long(62), "b." + long(62), "a.a." + long(60), long(60),
	}
}

func noNames() []string {
	l := []string{
		"", ".", "..", ".a", "a.", "a..b", "a.b.", ".a.b", "a...b", "a. b", " a", "a ", "a\n", "a\x00", "-", "_", "-a", "a-", "a.-b", "a-.b", "a.b-", "--", "_-", "-_", "__", "__a", "a_", "a_b", "_a_", "_.a", "a._", "a.b_c", "_a-",
		"A", "Z", "aB", "a.B", "*", "*a", "a*", "a.*", "*.", "**", "*.*", "*.*.a", "a.*.b", "a,b", "a/b", "a:b", "a@b", "a[b", "a`b", "a{b", "/", ":", "`", "{", ",", "+",
		"ä", "aä", "äa", "a.ä", "\u0101", "\uff41", "\u2024a", "a\u3002b", "\U0001f512", "\u212a", "a\xff", "\xff", "\xc3", "a\xc3b", "a.\x80", "\xed\xa0\x80", "a\ufffd", "\u0000a",
		label(17), "a." + label(17), label(17) + ".a", "_" + label(16), of(9), of(100), long(65), long(66), "a." + long(64), label(16) + "." + long(64), strings.Repeat("a", 64), strings.Repeat("a", 65), strings.Repeat("a.", 1000) + "a", strings.Repeat(".", 64), strings.Repeat("a", 1<<20),
	}
	for _, x := range "\x00\x1f !\"#$%&'()*+,/:;<=>?@AMZ[\\]^`{|}~\x7f" {
		l = append(l, string(x), "a"+string(x)+"b", string(x)+"a", "a"+string(x), "a.b"+string(x)+"c.d")
	}
	return l
}

func stars() []string {
	return []string{"*.a", "*.0", "*._a", "*.a.b", "*.b", "*.a.b.c", "*.b.c", "*.c", "*.x.a.b", "*.ab.c", "*.bc", "*.a-b", "*." + label(16), "*." + of(6), "*." + of(7), "*." + long(60), "*." + long(61), "*." + long(62), "*.a." + long(60)}
}

func noPatterns() []string {
	l := []string{"*." + of(8), "*." + of(9), "*." + long(63), "*." + long(64), "*.a." + long(61), "*a.b", "**.a", "*..a", ".*.a", "a.*", "a.*.b", "*.*.a", "*.*", "*.a.*", "* .a", "*.a.", "*.-a", "*.a-", "*._", "*.A", "*.ä", "*.\xff", "*.a..b", "*." + label(17), "*\n.a", "?.a", "+.a"}
	return append(l, noNames()...)
}

// all are texts of so many letters at most, of some letters that mean something, and some that are just outside.
func all(letters string, most int) []string {
	l, last := []string{""}, []string{""}
	for range most {
		var next []string
		for _, s := range last {
			for _, x := range letters {
				next = append(next, s+string(x))
			}
		}
		l, last = append(l, next...), next
	}
	return l
}

func orName(ok bool) api.Errno {
	if ok {
		return api.OK
	}
	return api.ErrName
}

func checked(t *testing.T, s string) {
	t.Helper()
	if e := names.Check(s); e != orName(isName(s)) {
		t.Errorf("Check(%q) is %d", s, e)
	}
	if e := names.Pattern(s); e != orName(isPattern(s)) {
		t.Errorf("Pattern(%q) is %d", s, e)
	}
}

// P11.1

func TestCheckAndPattern(t *testing.T) {
	for _, s := range someNames() {
		if names.Check(s) != api.OK || names.Pattern(s) != api.OK {
			t.Errorf("%q is a name, but Check is %d, and Pattern %d", s, names.Check(s), names.Pattern(s))
		}
	}
	for _, s := range noNames() {
		if names.Check(s) != api.ErrName {
			t.Errorf("%q is no name, but Check is %d", s, names.Check(s))
		}
	}
	for _, s := range stars() {
		if names.Check(s) != api.ErrName || names.Pattern(s) != api.OK {
			t.Errorf("%q is a star, but Check is %d, and Pattern %d", s, names.Check(s), names.Pattern(s))
		}
	}
	for _, s := range noPatterns() {
		if names.Pattern(s) != api.ErrName {
			t.Errorf("%q is no pattern, but Pattern is %d", s, names.Pattern(s))
		}
	}
}

func TestCheckOfAllShortTexts(t *testing.T) {
	for _, s := range all("a9-_.*Z", 6) {
		checked(t, s)
	}
	for _, s := range all("a-_.*", 7) {
		checked(t, s)
	}
	for _, s := range all("ab.", 9) {
		checked(t, s)
	}
}

func TestCheckOfAllBytes(t *testing.T) {
	for x := range 256 {
		b := string([]byte{byte(x)})
		for _, s := range []string{b, b + "a", "a" + b, "a" + b + "a", "a." + b, b + ".a", "a.b" + b + "c.d", "_" + b, b + "_", "*" + b + "a", b + ".a", "*." + b + "a"} {
			checked(t, s)
		}
	}
	for r := range rune(0x3000) {
		for _, s := range []string{string(r), "a" + string(r) + "a", string(r) + "a", "*." + string(r) + "a"} {
			checked(t, s)
		}
	}
}

func TestCheckOfAllLengths(t *testing.T) {
	for length := 2; length <= 20; length++ {
		for _, s := range []string{label(length), "_" + label(length), label(length) + ".a", "a." + label(length), "*." + label(length)} {
			checked(t, s)
		}
	}
	for labels := 1; labels <= 12; labels++ {
		for _, s := range []string{of(labels), "*." + of(labels), "*.*." + of(labels), "_a." + of(labels), of(labels) + ".", "." + of(labels)} {
			checked(t, s)
		}
	}
	for length := 50; length <= 70; length++ {
		for _, s := range []string{long(length), "*." + long(length), strings.Repeat("abcdefg.", 8)[:length&^7-1], strings.Repeat("a", length)} {
			checked(t, s)
		}
	}
}

func TestLabelsAndUp(t *testing.T) {
	for _, s := range append(someNames(), all("ab.-", 6)...) {
		var want []string
		up := ""
		if isName(s) {
			want = strings.Split(s, ".")
			up = strings.Join(want[1:], ".")
		}
		if l := names.Labels(s); !slices.Equal(l, want) {
			t.Errorf("Labels(%q) are %q, not %q", s, l, want)
		}
		if above := names.Up(s); above != up {
			t.Errorf("Up(%q) is %q, not %q", s, above, up)
		}
	}
	for _, s := range append(noNames(), stars()...) {
		if l := names.Labels(s); len(l) != 0 {
			t.Errorf("Labels(%q) are %q", s, l)
		}
		if above := names.Up(s); above != "" {
			t.Errorf("Up(%q) is %q", s, above)
		}
	}
	for _, s := range []string{"a", "_a", label(16)} {
		if above := names.Up(s); above != "" {
			t.Errorf("Up(%q) is %q", s, above)
		}
	}
}

// P11.2

func TestUnder(t *testing.T) {
	l := append(someNames(), all("ab.", 5)...)
	for _, s := range l {
		if names.Under(s, "") != isName(s) {
			t.Errorf("Under(%q) of nothing is %v", s, !isName(s))
		}
		for _, apex := range l {
			if apex != "" && names.Under(s, apex) != (isName(s) && isUnder(s, apex)) {
				t.Errorf("Under(%q, %q) is wrong", s, apex)
			}
		}
	}
	for _, s := range append(noNames(), stars()...) {
		for _, apex := range []string{"", s, "a", "b", "c", "a.b"} {
			if names.Under(s, apex) {
				t.Errorf("Under(%q, %q) is true", s, apex)
			}
		}
	}
	for _, s := range someNames() {
		for _, apex := range append(noNames()[1:], stars()...) {
			if names.Under(s, apex) {
				t.Errorf("Under(%q, %q) is true", s, apex)
			}
		}
		if names.Under(s, s[1:]) && s[1:] != "" {
			t.Errorf("%q is under its end", s)
		}
		if names.Under(s, "x"+s) || names.Under(s, "x."+s) {
			t.Errorf("%q is under what is below it", s)
		}
	}
}

// P11.3

// matches is what the chapter says of Match.
func matches(pat, s string) bool {
	if !isPattern(pat) || !isName(s) {
		return false
	}
	if of, ok := strings.CutPrefix(pat, "*."); ok {
		return isBelow(s, of)
	}
	return pat == s
}

func TestMatch(t *testing.T) {
	pats := slices.Concat(someNames(), stars(), noPatterns()[:40], all("a*.", 4))
	texts := slices.Concat(someNames(), stars(), noNames()[:40], all("a*.", 4), []string{"a." + of(7), "a." + long(62), "b." + long(61), "bb." + long(61)})
	for _, pat := range pats {
		for _, s := range texts {
			if names.Match(pat, s) != matches(pat, s) {
				t.Errorf("Match(%q, %q) is %v", pat, s, !matches(pat, s))
			}
		}
	}
	// What may not be matches not even itself.
	for _, s := range append(noNames(), noPatterns()...) {
		if names.Match(s, s) || names.Match("*."+s, "a."+s) {
			t.Errorf("Match(%q) is true of itself, or of what is below it", s)
		}
	}
	for _, s := range stars() {
		if names.Match(s, s) || names.Match(s, s[2:]) || !names.Match(s, "a"+s[1:]) {
			t.Errorf("Match(%q) is wrong", s)
		}
	}
}

func TestExamples(t *testing.T) {
	if !names.Under("a.b.c", "c") || !names.Under("a.b.c", "b.c") || !slices.Equal(names.Labels("a.b.c"), []string{"a", "b", "c"}) {
		t.Error("a.b.c is not below c and b.c, or has other labels")
	}
	if !names.Match("*.c", "a.b.c") || !names.Within("*.b.c", "*.c") || !names.Meets("*.b.c", "*.c") {
		t.Error("*.c does not match a.b.c, or *.b.c is not within it")
	}
	if names.Match("*.c", "c") || names.Match("*.c", "_") {
		t.Error("*.c matches c, or _")
	}
	for _, s := range []string{"-a", "a..b", "a-"} {
		if names.Check(s) != api.ErrName {
			t.Errorf("%q is a name", s)
		}
	}
	if !names.Match("*.a.b", "x.a.b") || !names.Match("*.a.b", "y.x.a.b") || names.Match("*.a.b", "a.b") {
		t.Error("*.a.b does not match just what is below it")
	}
}

// P11.4

func TestWithinAndMeetsByAllNames(t *testing.T) {
	// Names of up to four labels show all that patterns of up to two labels, and a star, may do.
	var universe, pats []string
	for _, s := range all("ab.", 7) {
		if isName(s) && !strings.Contains(s, "aa") && !strings.Contains(s, "bb") && !strings.Contains(s, "ab") && !strings.Contains(s, "ba") {
			universe = append(universe, s)
			if len(s) <= 3 {
				pats = append(pats, s, "*."+s)
			}
		}
	}
	for _, p := range pats {
		for _, q := range pats {
			within, meets := true, false
			for _, s := range universe {
				within = within && (!matches(p, s) || matches(q, s))
				meets = meets || matches(p, s) && matches(q, s)
			}
			if names.Within(p, q) != within {
				t.Errorf("Within(%q, %q) is %v", p, q, !within)
			}
			if names.Meets(p, q) != meets {
				t.Errorf("Meets(%q, %q) is %v", p, q, !meets)
			}
		}
	}
}

// isWithin is asked of two patterns.
func isWithin(p, q string) bool {
	of, star := strings.CutPrefix(p, "*.")
	in, inStar := strings.CutPrefix(q, "*.")
	switch {
	case star && inStar:
		return isUnder(of, in)
	case inStar:
		return isBelow(p, in)
	}
	return p == q
}

func TestWithinAndMeets(t *testing.T) {
	right := append(someNames(), stars()...)
	for _, p := range right {
		for _, q := range right {
			if names.Within(p, q) != isWithin(p, q) {
				t.Errorf("Within(%q, %q) is %v", p, q, !isWithin(p, q))
			}
			if meets := isWithin(p, q) || isWithin(q, p); names.Meets(p, q) != meets {
				t.Errorf("Meets(%q, %q) is %v", p, q, !meets)
			}
		}
	}
}

func TestWithinAndMeetsOfWhatIsNoPattern(t *testing.T) {
	right := []string{"a", "b", "a.b", "*.a", "*.b", "*.a.b", of(8), "*." + of(7), "*." + long(62), long(64)}
	for _, p := range noPatterns() {
		for _, q := range append(right, p, "*."+p, strings.TrimPrefix(p, "*.")) {
			if names.Within(p, q) || names.Within(q, p) && isPattern(q) || names.Meets(p, q) || names.Meets(q, p) {
				t.Errorf("%q is no pattern, but is within %q, or meets it", p, q)
			}
		}
	}
}

// P11.5

func TestWhatStarsDo(t *testing.T) {
	for _, p := range stars() {
		for _, s := range someNames() {
			if names.Within(p, s) {
				t.Errorf("the star %q is within the name %q", p, s)
			}
			if names.Within(s, p) != names.Match(p, s) || names.Meets(s, p) != names.Match(p, s) || names.Meets(p, s) != names.Match(p, s) {
				t.Errorf("whether %q is within %q is not whether it matches", s, p)
			}
		}
		for _, q := range stars() {
			if names.Within(p, q) != names.Under(p[2:], q[2:]) {
				t.Errorf("Within(%q, %q) is wrong", p, q)
			}
			if names.Meets(p, q) != (names.Within(p, q) || names.Within(q, p)) {
				t.Errorf("Meets(%q, %q) is wrong", p, q)
			}
		}
	}
}

// R2, R6

func TestNothingIsKept(t *testing.T) {
	l := names.Labels("a.b.c")
	clear(l)
	if again := names.Labels("a.b.c"); !slices.Equal(again, []string{"a", "b", "c"}) {
		t.Errorf("Labels are %q, after what was told is changed", again)
	}
}
