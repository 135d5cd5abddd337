package rule_test

import (
	"bytes"
	"math"
	"slices"
	"strconv"
	"strings"
	"testing"

	"greatseal/api"
	"greatseal/names"
	"greatseal/rule"
)

// web is a rule that has all that there may be.
func web() api.Rule {
	return api.Rule{Name: "web", Allow: true, Pats: []string{"a.b", "*.c"}, KeyMin: 7, LifeMax: 90, Most: 3, Window: 10}
}

func no() api.Rule { return api.Rule{Name: "no", Pats: []string{"x"}} }

func changed(r api.Rule, change func(r *api.Rule)) api.Rule {
	r.Pats = slices.Clone(r.Pats)
	change(&r)
	return r
}

// many are so many rules, of which every third one refuses.
func many(number int) []api.Rule {
	var l []api.Rule
	for k := range number {
		l = append(l, changed(web(), func(r *api.Rule) {
			r.Name, r.Pats[0] = "r"+strconv.Itoa(k), "a"+strconv.Itoa(k)
			if k%3 == 2 {
				*r = api.Rule{Name: r.Name, Pats: r.Pats}
			}
		}))
	}
	return l
}

func pats(number int) []string {
	return []string{"a", "*.a", "b.a", "*.b.a", "_c.a", "a-b", "0", "life", "key", "z"}[:number]
}

// great are rules of the longest text that there may be.
func great() []api.Rule {
	var l []api.Rule
	for k := range 32 {
		r := api.Rule{Name: strings.Repeat("x", 14) + strconv.Itoa(10+k), Allow: true, KeyMin: api.Q, LifeMax: 1000, Most: 1000, Window: api.MaxTime}
		for i := range 8 {
			r.Pats = append(r.Pats, "*."+strconv.Itoa(i)+"bcdefgh."+strings.Repeat("abcdefgh.", 5)+"abcdefgh")
		}
		l = append(l, r)
	}
	return l
}

func allNames() []string {
	l := []string{"a", "z", "0", "9", "-", "--", "a-", "-a", "web", "allow", "refuse", "key", "life", "most", "per", "1234567890123456", strings.Repeat("a", 16), strings.Repeat("-", 16)}
	for x := byte('a'); x <= 'z'; x++ {
		l = append(l, string(x), "a"+string(x))
	}
	for x := byte('0'); x <= '9'; x++ {
		l = append(l, string(x), "a"+string(x))
	}
	return l
}

func noNames() []string {
	l := []string{"", strings.Repeat("a", 17), strings.Repeat("a", 1000), strings.Repeat("-", 17), "ä", "a b", "a\n"}
	for x := range 256 {
		b := byte(x)
		if b >= 'a' && b <= 'z' || b >= '0' && b <= '9' || b == '-' {
			continue
		}
		for _, name := range []string{string([]byte{b}), string([]byte{'a', b}), string([]byte{b, 'a'}), "ab" + string([]byte{b}) + "ba"} {
			l = append(l, name)
		}
	}
	return l
}

func noPats() []string {
	return []string{"", ".", "a..b", ".a", "a.", "-a", "a-", "A", "*", "*.", "*a", "a.*", "**.a", "*.*.a", "_", "a b", "ä", strings.Repeat("a", 17), "a.a.a.a.a.a.a.a.b", "*.a.a.a.a.a.a.a.b", "*." + strings.Repeat("abcdefg.", 7) + "abcdef", "*." + strings.Repeat("abcdefgh.", 6) + "abcdefghi"}
}

// mayBe are rules that may be, each alone.
func mayBe() []api.Rule {
	l := []api.Rule{web(), no(), {Name: "a", Allow: true, Pats: []string{"a"}, LifeMax: 1}}
	for _, base := range []api.Rule{web(), no()} {
		for _, name := range allNames() {
			l = append(l, changed(base, func(r *api.Rule) { r.Name = name }))
		}
		for number := 1; number <= 8; number++ {
			l = append(l, changed(base, func(r *api.Rule) { r.Pats = pats(number) }))
		}
		for _, pat := range []string{"a.a.a.a.a.a.a.b", "*.a.a.a.a.a.a.b", strings.Repeat("abcdefg.", 7) + "abcdefgh", "*." + strings.Repeat("abcdefgh.", 6) + "abcdefgh"} {
			l = append(l, changed(base, func(r *api.Rule) { r.Pats = []string{pat} }))
		}
	}
	for _, key := range []uint64{0, 1, 2, 9, 10, 99, 1 << 32, 1<<53 + 1, api.Q - 1, api.Q} {
		l = append(l, changed(web(), func(r *api.Rule) { r.KeyMin = key }))
	}
	for _, n := range []int{1, 2, 9, 10, 99, 100, 999, 1000} {
		l = append(l, changed(web(), func(r *api.Rule) { r.LifeMax = n }), changed(web(), func(r *api.Rule) { r.Most = n }), changed(web(), func(r *api.Rule) { r.Window = n }))
	}
	for _, n := range []int{1001, 1 << 32, api.MaxTime - 1, api.MaxTime} {
		l = append(l, changed(web(), func(r *api.Rule) { r.Window = n }))
	}
	return append(l, changed(web(), func(r *api.Rule) { r.Most, r.Window = 0, 0 }), changed(web(), func(r *api.Rule) { r.KeyMin, r.Most, r.Window = 0, 0, 0 }))
}

// mayNot are rules that may not be.
func mayNot() []api.Rule {
	l := []api.Rule{{}, {Name: "a"}, {Allow: true}, {Name: "a", Allow: true, Pats: []string{"a"}}, {Pats: []string{"a"}}}
	for _, base := range []api.Rule{web(), no()} {
		for _, name := range noNames() {
			l = append(l, changed(base, func(r *api.Rule) { r.Name = name }))
		}
		for _, pat := range noPats() {
			l = append(l, changed(base, func(r *api.Rule) { r.Pats = []string{pat} }), changed(base, func(r *api.Rule) { r.Pats = append(r.Pats, pat) }), changed(base, func(r *api.Rule) { r.Pats = []string{pat, "x"} }))
		}
		l = append(l, changed(base, func(r *api.Rule) { r.Pats = nil }))
		for number := 9; number <= 10; number++ {
			l = append(l, changed(base, func(r *api.Rule) { r.Pats = pats(number) }))
		}
		for first := range 8 {
			for second := range first {
				l = append(l, changed(base, func(r *api.Rule) { r.Pats = pats(8); r.Pats[first] = r.Pats[second] }))
			}
		}
	}
	for _, key := range []uint64{api.Q + 1, api.P, 1 << 62, math.MaxUint64} {
		l = append(l, changed(web(), func(r *api.Rule) { r.KeyMin = key }))
	}
	for _, n := range []int{math.MinInt, -1, 0, 1001, 1002, 1 << 32, 1<<32 + 5, math.MaxInt} {
		l = append(l, changed(web(), func(r *api.Rule) { r.LifeMax = n }), changed(web(), func(r *api.Rule) { r.LifeMax, r.Most, r.Window = n, 0, 0 }))
	}
	for _, n := range []int{math.MinInt, -1, 1001, 1002, 1 << 32, math.MaxInt} {
		l = append(l, changed(web(), func(r *api.Rule) { r.Most = n }), changed(web(), func(r *api.Rule) { r.Most, r.Window = n, 0 }))
	}
	for _, n := range []int{math.MinInt, -1, 0, api.MaxTime + 1, math.MaxInt} {
		l = append(l, changed(web(), func(r *api.Rule) { r.Window = n }))
	}
	for _, n := range []int{math.MinInt, -1, 1, 10, api.MaxTime, math.MaxInt} {
		l = append(l, changed(web(), func(r *api.Rule) { r.Most, r.Window = 0, n }))
		l = append(l, changed(no(), func(r *api.Rule) { r.LifeMax = n }), changed(no(), func(r *api.Rule) { r.Most = n }), changed(no(), func(r *api.Rule) { r.Window = n }), changed(no(), func(r *api.Rule) { r.Most, r.Window = n, n }))
	}
	for _, key := range []uint64{1, 7, api.Q, math.MaxUint64} {
		l = append(l, changed(no(), func(r *api.Rule) { r.KeyMin = key }))
	}
	return append(l, changed(web(), func(r *api.Rule) { r.Allow = false }), changed(no(), func(r *api.Rule) { r.Allow = true }))
}

func sameRule(a, b api.Rule) bool {
	return a.Name == b.Name && a.Allow == b.Allow && a.KeyMin == b.KeyMin && a.LifeMax == b.LifeMax && a.Most == b.Most && a.Window == b.Window && slices.Equal(a.Pats, b.Pats)
}

func same(a, b []api.Rule) bool { return slices.EqualFunc(a, b, sameRule) }

func checked(t *testing.T, want api.Errno, l ...api.Rule) {
	t.Helper()
	if e := rule.Check(l); e != want {
		t.Errorf("Check(%v) is %d, not %d", l, e, want)
	}
}

func compared(t *testing.T, want bool, a, b []api.Rule) {
	t.Helper()
	if rule.Same(a, b) != want || rule.Same(b, a) != want {
		t.Errorf("Same(%v, %v) is not %v", a, b, want)
	}
}

func printed(t *testing.T, want string, l ...api.Rule) {
	t.Helper()
	if b, e := rule.Print(l); string(b) != want || e != api.OK {
		t.Errorf("Print(%v) is %q, %d, not %q", l, b, e, want)
	}
}

func notPrinted(t *testing.T, want api.Errno, l ...api.Rule) {
	t.Helper()
	if b, e := rule.Print(l); len(b) != 0 || e != want {
		t.Errorf("Print(%v) is %q, %d, not %d", l, b, e, want)
	}
}

func parsed(t *testing.T, text string, want ...api.Rule) {
	t.Helper()
	if l, at, e := rule.Parse([]byte(text)); !same(l, want) || at != 0 || e != api.OK {
		t.Errorf("Parse(%q) is %v, %d, %d, not %v", text, l, at, e, want)
	}
}

func notParsed(t *testing.T, text string, wantAt int, want api.Errno) {
	t.Helper()
	if l, at, e := rule.Parse([]byte(text)); len(l) != 0 || at != wantAt || e != want {
		t.Errorf("Parse(%q) is %v, %d, %d, not %d, %d", text, l, at, e, wantAt, want)
	}
}

// textOf is the text of a rule, word by word.
func textOf(r api.Rule) string {
	words := []string{"refuse", r.Name, "{"}
	if r.Allow {
		words[0] = "allow"
	}
	for k, pat := range r.Pats {
		end := ","
		if k == len(r.Pats)-1 {
			end = ";"
		}
		words = append(words, pat+end)
	}
	if r.KeyMin != 0 {
		words = append(words, "key", strconv.FormatUint(r.KeyMin, 10)+";")
	}
	if r.Allow {
		words = append(words, "life", strconv.Itoa(r.LifeMax)+";")
	}
	if r.Most != 0 {
		words = append(words, "most", strconv.Itoa(r.Most), "per", strconv.Itoa(r.Window)+";")
	}
	return strings.Join(append(words, "}"), " ") + "\n"
}

func textsOf(l []api.Rule) string {
	text := ""
	for _, r := range l {
		text += textOf(r)
	}
	return text
}

// P15.1

func TestCheck(t *testing.T) {
	checked(t, api.OK)
	for _, r := range mayBe() {
		checked(t, api.OK, r)
		r.Name = "other"
		checked(t, api.OK, web(), r, no())
	}
	for _, r := range mayNot() {
		checked(t, api.ErrArg, r)
		checked(t, api.ErrArg, web(), r)
		checked(t, api.ErrArg, r, no())
		checked(t, api.ErrArg, append(many(32), r)...)
		checked(t, api.ErrArg, append([]api.Rule{r}, many(32)...)...)
	}
	for number := range 33 {
		checked(t, api.OK, many(number)...)
	}
	for _, number := range []int{33, 34, 100} {
		checked(t, api.ErrBound, many(number)...)
	}
	checked(t, api.OK, great()...)
}

func TestTwoOfOneName(t *testing.T) {
	checked(t, api.ErrArg, web(), web())
	checked(t, api.ErrArg, web(), changed(no(), func(r *api.Rule) { r.Name = "web" }))
	for _, number := range []int{3, 32, 33, 40} {
		for first := range number {
			for _, second := range []int{0, number / 2, number - 1} {
				if first == second {
					continue
				}
				l := many(number)
				l[first].Name = l[second].Name
				checked(t, api.ErrArg, l...)
			}
		}
	}
}

func TestSame(t *testing.T) {
	all := []api.Rule{
		{}, web(), no(), changed(web(), func(r *api.Rule) { r.Name = "we" }), changed(web(), func(r *api.Rule) { r.Allow = false }), changed(web(), func(r *api.Rule) { r.Pats[0] = "a.c" }), changed(web(), func(r *api.Rule) { r.Pats[1] = "c" }),
		changed(web(), func(r *api.Rule) { r.Pats = r.Pats[:1] }), changed(web(), func(r *api.Rule) { r.Pats = r.Pats[1:] }), changed(web(), func(r *api.Rule) { slices.Reverse(r.Pats) }), changed(web(), func(r *api.Rule) { r.Pats = append(r.Pats, "") }), changed(web(), func(r *api.Rule) { r.Pats = nil }),
		changed(web(), func(r *api.Rule) { r.KeyMin = 8 }), changed(web(), func(r *api.Rule) { r.LifeMax = 91 }), changed(web(), func(r *api.Rule) { r.Most = 4 }), changed(web(), func(r *api.Rule) { r.Window = 11 }), {Allow: true}, {LifeMax: -1}, {Name: "-"},
	}
	for i, a := range all {
		for k, b := range all {
			compared(t, i == k, []api.Rule{a}, []api.Rule{b})
			compared(t, i == k, []api.Rule{web(), a, no()}, []api.Rule{web(), b, no()})
			compared(t, i == k, []api.Rule{a, b}, []api.Rule{b, a})
		}
		compared(t, false, nil, []api.Rule{a})
		compared(t, false, []api.Rule{a}, []api.Rule{a, a})
	}
	compared(t, true, nil, []api.Rule{})
	compared(t, true, []api.Rule{{Pats: []string{}}}, []api.Rule{{}})
	compared(t, true, many(40), many(40))
}

// P15.2

func TestPrint(t *testing.T) {
	printed(t, "")
	printed(t, "allow web { a.b, *.c; key 7; life 90; most 3 per 10; }\n", web())
	printed(t, "refuse no { x; }\n", no())
	printed(t, "allow web { a.b, *.c; life 90; most 3 per 10; }\n", changed(web(), func(r *api.Rule) { r.KeyMin = 0 }))
	printed(t, "allow web { a.b, *.c; key 7; life 90; }\n", changed(web(), func(r *api.Rule) { r.Most, r.Window = 0, 0 }))
	printed(t, "allow w { a; life 1; }\nrefuse no { x; }\nallow web { a.b, *.c; key 7; life 90; most 3 per 10; }\n", api.Rule{Name: "w", Allow: true, Pats: []string{"a"}, LifeMax: 1}, no(), web())
	printed(t, "refuse no { a, *.a, b.a, *.b.a, _c.a, a-b, 0, life; }\n", changed(no(), func(r *api.Rule) { r.Pats = pats(8) }))
	printed(t, "allow web { a.b, *.c; key 2305843009213691579; life 1000; most 1000 per 1099511627776; }\n", changed(web(), func(r *api.Rule) { r.KeyMin, r.LifeMax, r.Most, r.Window = api.Q, 1000, 1000, api.MaxTime }))
	for _, r := range mayBe() {
		printed(t, textOf(r), r)
	}
	for number := range 33 {
		printed(t, textsOf(many(number)), many(number)...)
	}
	printed(t, textsOf(great()), great()...)
}

func TestPrintOfWhatMayNotBe(t *testing.T) {
	for _, r := range mayNot() {
		notPrinted(t, api.ErrArg, r)
		notPrinted(t, api.ErrArg, web(), r)
		notPrinted(t, api.ErrArg, append(many(33), r)...)
	}
	notPrinted(t, api.ErrArg, web(), no(), web())
	notPrinted(t, api.ErrBound, many(33)...)
}

// P15.3

func TestParse(t *testing.T) {
	for _, blank := range []string{"", " ", "\n", "  \n ", "#", "#\n", "# allow", "#\n#\n", " # { } , ; ## \x00\xff\t\n", "\n\n"} {
		parsed(t, blank)
	}
	for _, r := range mayBe() {
		parsed(t, textOf(r), r)
		parsed(t, strings.TrimSpace(textOf(r)), r)
	}
	for number := range 33 {
		parsed(t, textsOf(many(number)), many(number)...)
	}
	parsed(t, textsOf(great()), great()...)
}

func TestBlanks(t *testing.T) {
	tokens := []string{"allow", "web", "{", "a.b", ",", "*.c", ";", "key", "7", ";", "life", "90", ";", "most", "3", "per", "10", ";", "}", "refuse", "no", "{", "x", ";", "}"}
	isWord := func(s string) bool { return strings.IndexByte("{},;", s[0]) < 0 }
	for _, blank := range []string{" ", "\n", "   ", "\n\n", " \n \n ", "#\n", "#}\n", "# ä\x00\xff\t # allow\n", "\n#x\n#y\n ", "#" + strings.Repeat("z", 100) + "\n"} {
		for at := range len(tokens) + 1 {
			text, tight := "", ""
			for k, token := range tokens {
				gap := " "
				if k == at {
					gap = blank
				}
				text += gap + token
				if k > 0 && k != at && !(isWord(token) && isWord(tokens[k-1])) {
					gap = ""
				}
				tight += gap + token
			}
			if at == len(tokens) {
				text, tight = text+blank, tight+blank
			}
			parsed(t, text, web(), no())
			parsed(t, tight, web(), no())
		}
	}
	parsed(t, "refuse no { x; }#", no())
	parsed(t, "refuse no { x; } # of no more", no())
	parsed(t, "refuse no { x; # a comment to the end of its line }\n}", no())
	notParsed(t, "refuse no { x; # a comment to the end of the text }", 51, api.ErrForm)
	// Other bytes are no blanks.
	for _, b := range []byte{0, '\t', '\v', '\f', '\r', 31, 33, 127, 0x85, 0xa0, 0xc2, 0xe2, 0xff} {
		for _, text := range []string{"", "refuse ", "refuse no { x; }"} {
			notParsed(t, text+string([]byte{b}), len(text), api.ErrForm)
			notParsed(t, text+"\n"+string([]byte{b})+"x", len(text)+1, api.ErrForm)
		}
	}
}

// steps are the grammar, as it is gone through: what may stand in each state, and which state is next. A state of "rule" is between two rules.
func steps() map[string]map[string]string {
	return map[string]map[string]string{
		"rule":       {"allow": "allowName", "refuse": "refuseName"},
		"allowName":  {"NAME": "allowOpen"},
		"allowOpen":  {"{": "allowPat"},
		"allowPat":   {"PAT": "allowNext"},
		"allowNext":  {",": "allowPat", ";": "key"},
		"key":        {"key": "keyN", "life": "lifeN"},
		"keyN":       {"NUM": "keyEnd"},
		"keyEnd":     {";": "life"},
		"life":       {"life": "lifeN"},
		"lifeN":      {"NUM": "lifeEnd"},
		"lifeEnd":    {";": "most"},
		"most":       {"most": "mostN", "}": "rule"},
		"mostN":      {"NUM": "per"},
		"per":        {"per": "perN"},
		"perN":       {"NUM": "perEnd"},
		"perEnd":     {";": "close"},
		"close":      {"}": "rule"},
		"refuseName": {"NAME": "refuseOpen"},
		"refuseOpen": {"{": "refusePat"},
		"refusePat":  {"PAT": "refuseNext"},
		"refuseNext": {",": "refusePat", ";": "close"},
	}
}

// step tells which state is behind a token, if it can stand there; names and patterns ahead of it are known.
func step(state, token string, known, pats []string) (string, bool) {
	for what, next := range steps()[state] {
		switch what {
		case "NAME":
			if strings.Trim(token, "abcdefghijklmnopqrstuvwxyz0123456789-") == "" && !slices.Contains(known, token) {
				return next, true
			}
		case "PAT":
			if names.Pattern(token) == api.OK && !slices.Contains(pats, token) && len(pats) < 8 {
				return next, true
			}
		case "NUM":
			if token == "5" {
				return next, true
			}
		case token:
			return next, true
		}
	}
	return "", false
}

// walk tries each token at each place of texts that begin with what is right.
func walk(t *testing.T, text, state string, known, pats []string, deep int) {
	if state == "rule" {
		if _, at, e := rule.Parse([]byte(text)); at != 0 || e != api.OK {
			t.Errorf("Parse(%q) tells %d, %d", text, at, e)
		}
		pats = nil
	} else {
		notParsed(t, text, len(text), api.ErrForm)
		notParsed(t, text+" # \n ", len(text)+5, api.ErrForm)
		notParsed(t, text+"#", len(text)+1, api.ErrForm)
	}
	for _, token := range []string{"allow", "refuse", "key", "life", "most", "per", "{", "}", ",", ";", "5", "-", "b", "*.b", "_b", "b.", "*", "?", "05", "A", "\x00", "\xc3", "allows", "per-"} {
		next, can := step(state, token, known, pats)
		if !can {
			for _, behind := range []string{"", " ", "{", ";", "?"} {
				// Behind a name or a number that can't stand there a byte of words would make another one.
				notParsed(t, text+" "+token+behind, len(text)+1, api.ErrForm)
			}
			continue
		}
		if deep == 0 || state != "rule" && !slices.Contains([]string{"b", "*.b", "key", "5", "{", "}", ",", ";"}, token) && token != state && token+"N" != next {
			continue
		}
		newKnown, newPats := known, pats
		switch {
		case strings.HasSuffix(state, "Name"):
			newKnown = append(slices.Clip(known), token)
		case strings.HasSuffix(state, "Pat"):
			newPats = append(slices.Clip(pats), token)
		}
		walk(t, text+" "+token, next, newKnown, newPats, deep-1)
	}
}

func TestEachTokenAtEachPlace(t *testing.T) {
	walk(t, "", "rule", nil, nil, 7)
	walk(t, "refuse b { b , *.b", "refuseNext", []string{"b"}, []string{"b", "*.b"}, 6)
	walk(t, "refuse b { b ;", "close", []string{"b"}, []string{"b"}, 5)
	walk(t, "allow b { b ;", "key", []string{"b"}, []string{"b"}, 15)
	walk(t, "allow b { b ; life 5 ; }", "rule", []string{"b"}, nil, 4)
	walk(t, "allow b { b ; life 5 ; } allow - { b ; key 5 ; life 5", "lifeEnd", []string{"b", "-"}, []string{"b"}, 8)
}

func TestPats(t *testing.T) {
	for _, kind := range []string{"allow a { ", "refuse a { "} {
		for number := 1; number <= 8; number++ {
			text := kind + strings.Join(pats(number), ",")
			notParsed(t, text, len(text), api.ErrForm)
			for _, pat := range noPats() {
				if strings.ContainsAny(pat, " Aä") || pat == "" {
					continue
				}
				notParsed(t, text+","+pat+";", len(text)+1, api.ErrForm)
			}
			for _, pat := range pats(number) {
				notParsed(t, text+","+pat+";", len(text)+1, api.ErrForm)
			}
		}
		text := kind + strings.Join(pats(8), ",")
		notParsed(t, text+",z", len(text)+1, api.ErrForm)
		notParsed(t, text+" ,  z;", len(text)+4, api.ErrForm)
		notParsed(t, text+",", len(text)+1, api.ErrForm)
		notParsed(t, text+",;", len(text)+1, api.ErrForm)
		notParsed(t, kind+";", len(kind), api.ErrForm)
		notParsed(t, kind+",a;", len(kind), api.ErrForm)
	}
	parsed(t, "refuse a{a,*.a,b.a,*.b.a,_c.a,a-b,0,life;}refuse b{a,*.a,b.a,*.b.a,_c.a,a-b,0,life;}", changed(no(), func(r *api.Rule) { r.Name, r.Pats = "a", pats(8) }), changed(no(), func(r *api.Rule) { r.Name, r.Pats = "b", pats(8) }))
}

func TestNames(t *testing.T) {
	for _, kind := range []string{"allow", "refuse"} {
		for _, name := range noNames() {
			if strings.ContainsAny(name, " \n#{") || name == "" {
				continue
			}
			// A name ends where a byte of no word stands.
			at := strings.IndexFunc(name, func(r rune) bool {
				return !(r >= 'a' && r <= 'z' || r >= '0' && r <= '9' || strings.ContainsRune("*._-", r))
			})
			notParsed(t, kind+" "+name+" {", len(kind)+1+max(at, 0), api.ErrForm)
		}
	}
	parsed(t, "refuse 1234567890123456 { x; }", changed(no(), func(r *api.Rule) { r.Name = "1234567890123456" }))
	notParsed(t, "refuse 12345678901234567 { x; }", 7, api.ErrForm)
	notParsed(t, textsOf([]api.Rule{web(), no()})+"refuse web { x; }", len(textsOf([]api.Rule{web(), no()}))+7, api.ErrForm)
	notParsed(t, textsOf([]api.Rule{web(), no()})+"allow no { x; life 5; }", len(textsOf([]api.Rule{web(), no()}))+6, api.ErrForm)
}

func TestNumbers(t *testing.T) {
	head := "allow web { a.b, *.c; "
	wrong := []string{"0", "00", "01", "007", "-1", "+1", "1.0", "1_0", "0x1", "1a", "a", "*", "-", "18446744073709551616", "18446744073709551617", "99999999999999999999999999", "36893488147419103233", strings.Repeat("9", 1000), strings.Repeat("0", 30) + "1"}
	number := func(ahead, behind string, most uint64, into func(r *api.Rule, n uint64)) {
		t.Helper()
		for _, n := range []uint64{1, 2, 9, 10, 11, 99, 100, 999, 1000, 1001, 1 << 32, api.MaxTime - 1, api.MaxTime, api.MaxTime + 1, api.Q - 1, api.Q, api.Q + 1, api.P, 1 << 63, 1<<63 + 5, math.MaxUint64} {
			text := head + ahead + strconv.FormatUint(n, 10) + behind
			if n <= most {
				parsed(t, text, changed(web(), func(r *api.Rule) { into(r, n) }))
			} else {
				notParsed(t, text, len(head+ahead), api.ErrForm)
			}
		}
		for _, n := range wrong {
			if n[0] == '+' {
				notParsed(t, head+ahead+n+behind, len(head+ahead), api.ErrForm)
				continue
			}
			notParsed(t, head+ahead+n+behind, len(head+ahead), api.ErrForm)
			notParsed(t, head+ahead+n, len(head+ahead), api.ErrForm)
		}
		notParsed(t, head+ahead+"1"+" 1"+behind, len(head+ahead)+2, api.ErrForm)
	}
	number("key ", "; life 90; most 3 per 10; }", api.Q, func(r *api.Rule, n uint64) { r.KeyMin = n })
	number("key 7; life ", "; most 3 per 10; }", 1000, func(r *api.Rule, n uint64) { r.LifeMax = int(n) })
	number("key 7; life 90; most ", " per 10; }", 1000, func(r *api.Rule, n uint64) { r.Most = int(n) })
	number("key 7; life 90; most 3 per ", "; }", api.MaxTime, func(r *api.Rule, n uint64) { r.Window = int(n) })
}

func TestRulesAreMany(t *testing.T) {
	text := textsOf(many(32))
	for _, next := range []string{"allow", "refuse", "allow x { a; life 5; }", "refuse ?", "allow{", "refuse#"} {
		for _, blank := range []string{"", " ", "\n\n", "# more\n"} {
			notParsed(t, text+blank+next, len(text+blank), api.ErrBound)
		}
	}
	for _, next := range []string{"allows", "x", "{", "}", ";", "?", "5", "life", "refuse-", "_allow"} {
		notParsed(t, text+" "+next, len(text)+1, api.ErrForm)
	}
	parsed(t, text+" # allow", many(32)...)
	notParsed(t, textsOf(many(40)), len(text), api.ErrBound)
	notParsed(t, textsOf(many(31))+"allow", len(textsOf(many(31)))+5, api.ErrForm)
	// What comes first, from the left on, is told.
	wrong := many(33)
	wrong[31].Name = "r3"
	at := len(textsOf(wrong[:31]))
	notParsed(t, textsOf(wrong), at+len("allow "), api.ErrForm)
	wrong = many(34)
	wrong[32].Name = "r3"
	notParsed(t, textsOf(wrong), len(text), api.ErrBound)
}

func TestBytesAreMany(t *testing.T) {
	text := textOf(web())
	filled := func(size int, fill string) string { return text + strings.Repeat(fill, size-len(text)) }
	for _, fill := range []string{" ", "\n", "#", "x"} {
		for _, size := range []int{32769, 32770, 65536, 100000} {
			notParsed(t, filled(size, fill), 0, api.ErrBound)
		}
	}
	notParsed(t, strings.Repeat("?", 32769), 0, api.ErrBound)
	for _, fill := range []string{" ", "\n", "#"} {
		for _, size := range []int{32767, 32768} {
			parsed(t, filled(size, fill), web())
		}
	}
	notParsed(t, strings.Repeat("?", 32768), 0, api.ErrForm)
	notParsed(t, strings.Repeat(" ", 32767)+"?", 32767, api.ErrForm)
	notParsed(t, strings.Repeat("a", 32768), 0, api.ErrForm)
	notParsed(t, "allow "+strings.Repeat(" ", 32762), 32768, api.ErrForm)
}

func TestOtherFaults(t *testing.T) {
	for _, x := range []struct {
		text string
		at   int
	}{
		{"allow", 5}, {"refuse", 6}, {"allow ", 6}, {"allow\n#x", 8}, {"allow a { b; }", 13}, {"allow a { b; most 3 per 4; life 5; }", 13}, {"allow a { b; key 3; most 3 per 4; }", 20}, {"allow a { b; life 5; key 3; }", 21}, {"allow a { b; life 5; life 5; }", 21}, {"allow a { b; key 3; key 3; life 5; }", 20},
		{"allow a { b; life 5; most 3; }", 27}, {"allow a { b; life 5; most 3 per 4 }", 34}, {"allow a { b; life 5 }", 20}, {"allow a { b life 5; }", 12}, {"allow a { b c; life 5; }", 12}, {"allow a { b, ; life 5; }", 13}, {"allow a b; life 5; }", 8}, {"allow { b; life 5; }", 6},
		{"refuse a { b; life 5; }", 14}, {"refuse a { b; key 5; }", 14}, {"refuse a { b; most 3 per 4; }", 14}, {"refuse a { b }", 13}, {"refuse a { b;; }", 13}, {"refuse a { b; } }", 16}, {"refuse a { b; } ;", 16}, {"refuse a { b; }, refuse c { d; }", 15}, {"refuse a, c { d; }", 8},
		{"Allow a { b; life 5; }", 0}, {"allow A { b; life 5; }", 6}, {"allow a { B; life 5; }", 10}, {"allow aA { b; life 5; }", 7}, {"refuse a { b; }refusec { d; }", 15}, {"refuse a { bä; }", 12}, {"refuse a { \"b\"; }", 11}, {"{", 0}, {"}", 0}, {",", 0}, {";", 0}, {"life", 0}, {"refuse a {b;}\r\n", 13}, {"refuse a { b/c; }", 12}, {"refuse a { b:c; }", 12}, {"refuse a { b`c; }", 12},
	} {
		notParsed(t, x.text, x.at, api.ErrForm)
	}
}

// P15.4

func TestWhatIsWrittenIsRead(t *testing.T) {
	all := [][]api.Rule{nil, great()}
	for _, r := range mayBe() {
		all = append(all, []api.Rule{r})
	}
	for number := range 33 {
		all = append(all, many(number))
	}
	for _, l := range all {
		b, e := rule.Print(l)
		if e != api.OK {
			t.Fatalf("Print(%v) tells %d", l, e)
		}
		parsed(t, string(b), l...)
		parsed(t, strings.ReplaceAll(strings.ReplaceAll(string(b), " ", " #;\n\n"), ",", " ,"), l...)
		if read, _, _ := rule.Parse(b); rule.Check(read) != api.OK || !rule.Same(read, l) {
			t.Errorf("what is read of %q may not be, or is another one", b)
		}
	}
}

func TestTextsBehindEachOther(t *testing.T) {
	for number := range 33 {
		for first := range number + 1 {
			a, _ := rule.Print(many(number)[:first])
			b, _ := rule.Print(many(number)[first:])
			parsed(t, string(a)+string(b), many(number)...)
			parsed(t, "# one\n"+string(a)+"# and the other\n"+string(b), many(number)...)
		}
	}
}

// R2, R6

func TestNothingIsChangedOrShared(t *testing.T) {
	b := []byte(textsOf(many(5)))
	l, _, _ := rule.Parse(b)
	if string(b) != textsOf(many(5)) {
		t.Error("Parse changes what is handed in")
	}
	clear(b)
	if !same(l, many(5)) {
		t.Error("what was read changes with the bytes")
	}
	l[0].Pats[0] = "z"
	if !same(l[1:], many(5)[1:]) {
		t.Error("rules that were read share their patterns")
	}
	l = many(5)
	b, _ = rule.Print(l)
	was := bytes.Clone(b)
	for k := range l {
		clear(l[k].Pats)
	}
	clear(l)
	if !bytes.Equal(b, was) {
		t.Error("what was written changes with the rules")
	}
	l = many(5)
	rule.Check(l)
	rule.Same(l, many(4))
	b, _ = rule.Print(l)
	clear(b)
	if !same(l, many(5)) {
		t.Error("rules that were handed in are changed")
	}
}

// The chapter's examples

func TestExamples(t *testing.T) {
	r := api.Rule{Name: "web", Allow: true, Pats: []string{"a.b", "*.c"}, LifeMax: 90, Most: 3, Window: 10}
	printed(t, "allow web { a.b, *.c; life 90; most 3 per 10; }\n", r)
	parsed(t, "allow web { a.b, *.c; life 90; most 3 per 10; }\n", r)
	notParsed(t, "refuse x { a..b; }", 11, api.ErrForm)
	notParsed(t, "allow", 5, api.ErrForm)
	parsed(t, "")
}
