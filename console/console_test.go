package console_test

import (
	"math"
	"math/rand"
	"reflect"
	"slices"
	"strconv"
	"strings"
	"testing"

	"greatseal/api"
	"greatseal/console"
	"greatseal/rule"
	"greatseal/world"
)

func sameDo(a, b api.Do) bool {
	a.Names, b.Names = append([]string{}, a.Names...), append([]string{}, b.Names...)
	return reflect.DeepEqual(a, b)
}

// P34.1

func makes(t *testing.T, s string, want api.Do) {
	t.Helper()
	if d, e := console.Act(s); !sameDo(d, want) || e != api.OK {
		t.Errorf("Act(%q) is %v, %d, not %v", s, d, e, want)
	}
}

func makesNot(t *testing.T, s string) {
	t.Helper()
	if d, e := console.Act(s); !sameDo(d, api.Do{}) || e != api.ErrLine {
		t.Errorf("Act(%q) is %v, %d", s, d, e)
	}
}

// line is one of each form.
type line struct {
	text string
	want api.Do
}

func lines() []line {
	rec := func(kind int) api.Rec { return api.Rec{Name: "n", Kind: kind, Value: "v", Life: 8} }
	bend := api.Bend{Seen: 3, From: 4, To: 5}
	return []line{
		{"own w x", api.Do{Kind: 1, Who: "w", Name: "x"}},
		{"put w n text v 8", api.Do{Kind: 2, Who: "w", Rec: rec(1)}},
		{"put w n caa v 8", api.Do{Kind: 2, Who: "w", Rec: rec(2)}},
		{"put w n ns v 8", api.Do{Kind: 2, Who: "w", Rec: rec(3)}},
		{"put w n alias v 8", api.Do{Kind: 2, Who: "w", Rec: rec(4)}},
		{"put w n host v 8", api.Do{Kind: 2, Who: "w", Rec: rec(5)}},
		{"drop w n host v 8", api.Do{Kind: 3, Who: "w", Rec: rec(5)}},
		{"bend 3 4 5", api.Do{Kind: 4, Bend: bend, N: 1}},
		{"mend 3 4 5", api.Do{Kind: 4, Bend: bend}},
		{"fake n ns v 8", api.Do{Kind: 5, Rec: rec(3)}},
		{"join w", api.Do{Kind: 6, Who: "w"}},
		{"order w l 6 7", api.Do{Kind: 7, Who: "w", Names: []string{"l"}, Key: 6, N: 7}},
		{"order w l,m,,, 6 7", api.Do{}},
		{"order w l,m 6 7", api.Do{Kind: 7, Who: "w", Names: []string{"l", "m"}, Key: 6, N: 7}},
		{"token w 9", api.Do{Kind: 8, Who: "w", N: 9}},
		{"look w 9", api.Do{Kind: 9, Who: "w", N: 9}},
		{"issue w 9", api.Do{Kind: 10, Who: "w", N: 9}},
		{"revoke w 9", api.Do{Kind: 11, Who: "w", N: 9}},
		{"bad 9", api.Do{Kind: 12, N: 9}},
		{"crash 9 6", api.Do{Kind: 13, N: 9, Key: 6}},
		{"back 9", api.Do{Kind: 14, N: 9}},
		{"split 9", api.Do{Kind: 15, N: 9}},
		{"merge 9", api.Do{Kind: 16, N: 9}},
		{"tick 9", api.Do{Kind: 17, N: 9}},
		{"fetch w 9", api.Do{Kind: 18, Who: "w", N: 9}},
		{"day w", api.Do{Kind: 19, Who: "w"}},
		{"visit w x 9", api.Do{Kind: 20, Who: "w", Name: "x", N: 9}},
		{"talk w x", api.Do{Kind: 21, Who: "w", Name: "x"}},
		{"watch 9", api.Do{Kind: 22, N: 9}},
		{"rogue l 6", api.Do{Kind: 23, Names: []string{"l"}, Key: 6}},
		{"rogue l,m,o 6", api.Do{Kind: 23, Names: []string{"l", "m", "o"}, Key: 6}},
	}
}

// right are those of lines that are some.
func right() []line {
	return slices.DeleteFunc(lines(), func(l line) bool { return l.want.Kind == 0 })
}

func TestAct(t *testing.T) {
	kinds := map[int]bool{}
	for _, l := range right() {
		makes(t, l.text, l.want)
		kinds[l.want.Kind] = true
	}
	if len(kinds) != 23 {
		t.Errorf("there are lines of the kinds %v", kinds)
	}
}

func TestActOfBlanks(t *testing.T) {
	for _, l := range right() {
		words := strings.Split(l.text, " ")
		makes(t, " "+l.text, l.want)
		makes(t, l.text+" ", l.want)
		makes(t, "    "+strings.Join(words, "   ")+"  ", l.want)
		for at := range words {
			makes(t, strings.Join(words[:at], " ")+strings.Repeat(" ", at+1)+strings.Join(words[at:], " "), l.want)
		}
		// Nothing else is a blank.
		for _, other := range []string{"\t", "\n", "\r", "\v", "\xa0", "\xc2\xa0", "\x00", "_"} {
			makesNot(t, strings.Join(words, other))
			makesNot(t, strings.Replace(l.text, " ", other, 1))
			makesNot(t, other+l.text)
			makesNot(t, other+" "+l.text)
			makesNot(t, l.text+" "+other)
		}
	}
	for _, s := range []string{"", " ", "    ", "\n", "\t"} {
		makesNot(t, s)
	}
	makes(t, "own \t\n \xff\xc3\xa4", api.Do{Kind: 1, Who: "\t\n", Name: "\xff\xc3\xa4"})
	makes(t, "join #", api.Do{Kind: 6, Who: "#"})
}

func TestActOfTooFewAndTooMany(t *testing.T) {
	for _, l := range right() {
		words := strings.Split(l.text, " ")
		for at := range words {
			fewer := slices.Delete(slices.Clone(words), at, at+1)
			makesNot(t, strings.Join(fewer, " "))
			makesNot(t, strings.Join(words[:at], " "))
			for _, word := range []string{"w", "9", "text", words[at], ","} {
				makesNot(t, strings.Join(slices.Insert(slices.Clone(words), at, word), " "))
			}
		}
		for _, word := range []string{"w", "9", "#", ",", words[0]} {
			makesNot(t, l.text+" "+word)
		}
		makesNot(t, l.text+" "+l.text)
		// Another first word.
		for _, first := range []string{strings.ToUpper(words[0]), words[0] + "s", words[0][1:], "new", "#", "0"} {
			makesNot(t, strings.Join(append([]string{first}, words[1:]...), " "))
		}
	}
	makesNot(t, "order w l,m,,, 6 7")
	makesNot(t, "new 2 3 3 2 ann rules")
	makesNot(t, "#")
	makesNot(t, "# tick 5")
	makesNot(t, "#tick 5")
}

// numbersOf are the places of a line's words that are numbers.
func numbersOf(words []string) []int {
	var l []int
	for at, word := range words {
		if _, e := strconv.Atoi(word); e == nil {
			l = append(l, at)
		}
	}
	return l
}

func TestActOfNumbers(t *testing.T) {
	for _, l := range right() {
		words := strings.Split(l.text, " ")
		for _, at := range numbersOf(words) {
			with := func(s string) string {
				x := slices.Clone(words)
				x[at] = s
				return strings.Join(x, " ")
			}
			for _, n := range []int{0, 1, 9, 10, 100, api.MaxTime, api.MaxTime + 1, 99999999999999999, 100000000000000000, 999999999999999999, 123456789012345678} {
				d, e := console.Act(with(strconv.Itoa(n)))
				if e != api.OK || !slices.Contains(numbersIn(d), n) || d.Kind != l.want.Kind {
					t.Errorf("Act(%q) is %v, %d", with(strconv.Itoa(n)), d, e)
				}
			}
			for _, s := range []string{"00", "01", "000000000000000000", "000000000000000001", "1000000000000000000", "9223372036854775807", "0000000000000000001", "18446744073709551615", "-1", "+1", "-0", "+", "-", "1.0", "1e3", "0x1", "1_0", "x", "1x", "x1", "1x1", "5,", ",5", "\xd9\xa1", "text", "1\t", "5\n"} {
				makesNot(t, with(s))
			}
		}
	}
}

// numbersIn are those that a doing has.
func numbersIn(d api.Do) []int {
	return []int{d.N, int(d.Key), d.Bend.Seen, d.Bend.From, d.Bend.To, d.Rec.Life}
}

func TestActOfKinds(t *testing.T) {
	for _, line := range []string{"put w n KIND v 8", "drop w n KIND v 8", "fake n KIND v 8"} {
		for kind, word := range []string{"", "text", "caa", "ns", "alias", "host"} {
			if d, e := console.Act(strings.Replace(line, "KIND", word, 1)); kind > 0 && (d.Rec != (api.Rec{Name: "n", Kind: kind, Value: "v", Life: 8}) || e != api.OK) {
				t.Errorf("%q of %s is %v, %d", line, word, d, e)
			}
		}
		for _, word := range []string{"Text", "TEXT", "tex", "texts", "1", "txt", "a", "#", "text,", "caa,ns", "hos", "mx"} {
			makesNot(t, strings.Replace(line, "KIND", word, 1))
		}
	}
	// Any word is a name, and a value.
	makes(t, "fake text text text 0", api.Do{Kind: 5, Rec: api.Rec{Name: "text", Kind: 1, Value: "text", Life: 0}})
	makes(t, "fake , ns 7,8 1", api.Do{Kind: 5, Rec: api.Rec{Name: ",", Kind: 3, Value: "7,8", Life: 1}})
	makes(t, "put 1 2 host 3 4", api.Do{Kind: 2, Who: "1", Rec: api.Rec{Name: "2", Kind: 5, Value: "3", Life: 4}})
}

func TestActOfNames(t *testing.T) {
	for _, x := range []struct {
		word  string
		names []string
	}{{"a", []string{"a"}}, {"a,b", []string{"a", "b"}}, {"b,a,a", []string{"b", "a", "a"}}, {"*.a,_,-", []string{"*.a", "_", "-"}}, {"1,2,3,4,5,6,7,8,9,10", []string{"1", "2", "3", "4", "5", "6", "7", "8", "9", "10"}}, {"\xff,\t", []string{"\xff", "\t"}}, {"a;b", []string{"a;b"}}, {"#", []string{"#"}}, {strings.Repeat("x", 99), []string{strings.Repeat("x", 99)}}} {
		makes(t, "rogue "+x.word+" 4", api.Do{Kind: 23, Names: x.names, Key: 4})
		makes(t, "order w "+x.word+" 4 5", api.Do{Kind: 7, Who: "w", Names: x.names, Key: 4, N: 5})
	}
	for _, word := range []string{",", ",a", "a,", "a,,b", ",,", "a,b,", ",a,b", "a, b", "a ,b"} {
		makesNot(t, "rogue "+word+" 4")
		makesNot(t, "order w "+word+" 4 5")
	}
}

// form is a line of the chapter's table: what its words are, and what they make.
type form struct {
	words string
	kind  int
	put   func(d *api.Do, w []string, n []int, r []api.Rec, l [][]string)
}

func forms() []form {
	who := func(d *api.Do, w []string, n []int, r []api.Rec, l [][]string) { d.Who = w[0] }
	number := func(d *api.Do, w []string, n []int, r []api.Rec, l [][]string) { d.N = n[0] }
	both := func(d *api.Do, w []string, n []int, r []api.Rec, l [][]string) { d.Who, d.N = w[0], n[0] }
	name := func(d *api.Do, w []string, n []int, r []api.Rec, l [][]string) { d.Who, d.Name = w[0], w[1] }
	rec := func(d *api.Do, w []string, n []int, r []api.Rec, l [][]string) { d.Who, d.Rec = w[0], r[0] }
	bend := func(d *api.Do, w []string, n []int, r []api.Rec, l [][]string) {
		d.Bend = api.Bend{Seen: n[0], From: n[1], To: n[2]}
	}
	return []form{
		{"own W W", api.OwnDo, name}, {"put W R", api.PutDo, rec}, {"drop W R", api.DropDo, rec},
		{"bend N N N", api.BendDo, func(d *api.Do, w []string, n []int, r []api.Rec, l [][]string) { bend(d, w, n, r, l); d.N = 1 }}, {"mend N N N", api.BendDo, bend},
		{"fake R", api.FakeDo, func(d *api.Do, w []string, n []int, r []api.Rec, l [][]string) { d.Rec = r[0] }}, {"join W", api.JoinDo, who},
		{"order W L N N", api.OrderDo, func(d *api.Do, w []string, n []int, r []api.Rec, l [][]string) {
			d.Who, d.Names, d.Key, d.N = w[0], l[0], uint64(n[0]), n[1]
		}},
		{"token W N", api.TokenDo, both}, {"look W N", api.LookDo, both}, {"issue W N", api.IssueDo, both}, {"revoke W N", api.RevokeDo, both}, {"bad N", api.BadDo, number},
		{"crash N N", api.CrashDo, func(d *api.Do, w []string, n []int, r []api.Rec, l [][]string) { d.N, d.Key = n[0], uint64(n[1]) }},
		{"back N", api.BackDo, number}, {"split N", api.SplitDo, number}, {"merge N", api.MergeDo, number}, {"tick N", api.TickDo, number}, {"fetch W N", api.FetchDo, both}, {"day W", api.DayDo, who},
		{"visit W W N", api.VisitDo, func(d *api.Do, w []string, n []int, r []api.Rec, l [][]string) { d.Who, d.Name, d.N = w[0], w[1], n[0] }},
		{"talk W W", api.TalkDo, name}, {"watch N", api.WatchDo, number},
		{"rogue L N", api.RogueDo, func(d *api.Do, w []string, n []int, r []api.Rec, l [][]string) { d.Names, d.Key = l[0], uint64(n[0]) }},
	}
}

func isNumber(s string) bool {
	for k := range len(s) {
		if s[k] < '0' || s[k] > '9' {
			return false
		}
	}
	return len(s) >= 1 && len(s) <= 18 && (s[0] != '0' || s == "0")
}

// asForm is what a line makes by a form, as the chapter says.
func asForm(f form, words []string) (api.Do, bool) {
	want := strings.Split(strings.ReplaceAll(f.words, "R", "W K W N"), " ")
	if len(words) != len(want) || words[0] != want[0] {
		return api.Do{}, false
	}
	var w []string
	var n []int
	var l [][]string
	kind := 0
	for k := 1; k < len(words); k++ {
		switch s := words[k]; want[k] {
		case "W":
			w = append(w, s)
		case "K":
			if kind = slices.Index([]string{"", "text", "caa", "ns", "alias", "host"}, s); kind < 1 {
				return api.Do{}, false
			}
		case "L":
			names := strings.Split(s, ",")
			if slices.Contains(names, "") {
				return api.Do{}, false
			}
			l = append(l, names)
		case "N":
			if !isNumber(s) {
				return api.Do{}, false
			}
			x, _ := strconv.Atoi(s)
			n = append(n, x)
		}
	}
	d := api.Do{Kind: f.kind}
	var r []api.Rec
	if kind > 0 {
		many := len(w)
		r = []api.Rec{{Name: w[many-2], Kind: kind, Value: w[many-1], Life: n[0]}}
		w = append(w[:many-2:many-2], "")
	}
	f.put(&d, w, n, r, l)
	return d, true
}

func TestActByChance(t *testing.T) {
	chance := rand.New(rand.NewSource(34))
	pool := []string{"a", "b,c", "0", "5", "12", "012", "text", "ns", "host", ",", "-1", "x", "w", "7", "#", "rules", ""}
	counts := map[bool]int{}
	for range 60000 {
		f := forms()[chance.Intn(24)]
		many := len(strings.Split(strings.ReplaceAll(f.words, "R", "W K W N"), " "))
		words := []string{strings.Split(f.words, " ")[0]}
		for range many - 1 + chance.Intn(8)/7 {
			words = append(words, pool[chance.Intn(len(pool))])
		}
		if chance.Intn(9) == 0 {
			words = words[:len(words)-1]
		}
		s := strings.Join(words, " ")
		words = slices.DeleteFunc(words, func(s string) bool { return s == "" })
		want, is := api.Do{}, false
		for _, f := range forms() {
			if d, of := asForm(f, words); of && len(words) > 0 {
				want, is = d, true
			}
		}
		counts[is]++
		if is {
			makes(t, s, want)
		} else {
			makesNot(t, s)
		}
	}
	if counts[true] < 5000 {
		t.Errorf("there were %v", counts)
	}
}

// P34.2

func TestSay(t *testing.T) {
	for _, x := range []struct {
		told api.Told
		want string
	}{
		{api.Told{}, "ok 0"}, {api.Told{N: 7}, "ok 7"}, {api.Told{N: -7}, "ok -7"}, {api.Told{N: math.MaxInt}, "ok 9223372036854775807"}, {api.Told{N: math.MinInt}, "ok -9223372036854775808"},
		{api.Told{E: api.ErrLine}, "error 150 0"}, {api.Told{E: api.ErrVotes, N: 2}, "error 230 2"}, {api.Told{E: 1, N: -1}, "error 1 -1"}, {api.Told{E: -1}, "error -1 0"}, {api.Told{E: math.MinInt, N: math.MaxInt}, "error -9223372036854775808 9223372036854775807"}, {api.Told{E: math.MaxInt}, "error 9223372036854775807 0"}, {api.Told{E: 330, N: 1000000}, "error 330 1000000"},
	} {
		if s := console.Say(x.told); s != x.want {
			t.Errorf("Say(%v) is %q, not %q", x.told, s, x.want)
		}
	}
}

// P34.3

func says(t *testing.T, what, script string, want ...string) {
	t.Helper()
	if l := console.Lines(script); !slices.Equal(l, want) {
		t.Errorf("%s: Lines is %q, not %q", what, l, want)
	}
}

const (
	begins = "new 2 3 3 2 ann,bob rules allow w { a, *.a; life 50; }"
	wrong  = "error 150 0"
)

func TestLines(t *testing.T) {
	says(t, "nothing", "")
	says(t, "blanks", "   \n \n\n  ")
	says(t, "remarks", "# tick 5\n#\n  #new\n##\n #join ann # bob")
	says(t, "no world", "tick 5\njoin ann\nx\n# y\n\ntick x", wrong, wrong, wrong, wrong)
	says(t, "a world", begins, "ok 0")
	says(t, "a world, and what is done in it", begins+"\nown zoe a\njoin zoe\norder zoe x.a,a 16 40\ntoken zoe 1\ntoken zoe 2\nlook zoe 1\nlook zoe 2\nissue zoe 1\ntick 20\nfetch ann 0\nvisit ann a 1\nvisit bob a 1\nrevoke bob 1\nrevoke zoe 1\nday ann\nvisit ann a 1\nwatch 0\nsplit 1\ntalk ann bob\nbad 1\nrogue b 4\ncrash 1 5\nback 1\nback 1\nmerge 2",
		"ok 0", "ok 0", "ok 1", "ok 1", "ok 0", "ok 0", "ok 3", "ok 3", "ok 1", "ok 0", "ok 1", "ok 0", "error 240 0", "error 220 0", "ok 0", "ok 0", "error 270 0", "ok 0", "ok 0", "ok 0", "ok 0", "ok 1", "ok 0", "ok 0", "error 221 0", "error 1 0")
	says(t, "what can't be read is said, and nothing done", begins+"\njoin ann\ntick\nfoo\njoin a b\njoin bob", "ok 0", "ok 1", wrong, wrong, wrong, "ok 2")
	says(t, "a number with an error", begins+"\nown zoe a\njoin zoe\norder zoe a 16 5\nbend 1 0 7\nbend 2 0 7\ntoken zoe 1\nlook zoe 1", "ok 0", "ok 0", "ok 1", "ok 1", "ok 0", "ok 0", "ok 0", "error 230 1")
	says(t, "a line at the end", begins+"\ntick 5\n", "ok 0", "ok 0")
	says(t, "lines without words, and remarks", "\n\n"+begins+"\n   \n# foo\ntick 5\n\n#\n", "ok 0", "ok 0")
	says(t, "other ends of lines", begins+"\r\ntick 5\r\ntick 6", "error 71 0", wrong, wrong)
}

func TestLinesThatBeginAWorld(t *testing.T) {
	for _, x := range []struct{ line, want string }{
		{begins, "ok 0"},
		{"new 1 1 1 1 x rules", "ok 0"},
		{"new 7 7 8 8 a,b,c,d rules", "ok 0"},
		{"  new   2 3  3 2   ann,bob    rules  ", "ok 0"},
		{"new 2 3 3 2 ann rules allow w { a ; life 50 ; }    refuse n { b; }", "ok 0"},
		// Rules that can't be read, or may not be; worlds that can't be begun.
		{"new 2 3 3 2 ann rules allow", "error 71 0"},
		{"new 2 3 3 2 ann rules rules", "error 71 0"},
		{"new 2 3 3 2 ann rules allow w { a; }", "error 71 0"},
		{"new 0 0 0 0 a,a rules x", "error 71 0"},
		{"new 2 3 3 2 ann rules allow w { a; life 50; } refuse n { a; }", "error 160 0"},
		{"new 2 3 3 2 ann rules allow w { a; life 50; } # refuse", "ok 0"},
		{"new 2 3 3 2 a,b,c,d,e rules", "error 1 0"},
		{"new 2 3 3 2 ann,ann rules", "error 1 0"},
		{"new 2 3 3 4 ann rules", "error 1 0"},
		{"new 2 3 9 2 ann rules", "error 1 0"},
		{"new 2 3 0 0 ann rules", "error 1 0"},
		{"new 4 3 3 2 ann rules", "error 1 0"},
		{"new 0 3 3 2 ann rules", "error 1 0"},
		{"new 2 999999999999999999 3 2 ann rules", "error 1 0"},
		{"new 2 3 3 2 " + strings.Repeat("x", 65) + " rules", "error 1 0"},
		// Lines that begin none.
		{"new", wrong}, {"new 2", wrong}, {"new 2 3 3 2", wrong}, {"new 2 3 3 2 ann", wrong}, {"new 2 3 3 2 rules", wrong}, {"new 2 3 3 2 rules rules", "ok 0"}, {"new 2 3 3 ann rules", wrong}, {"new 2 3 3 2 1 ann rules", wrong}, {"new 2 3 3 2 ann bob rules", wrong}, {"new 2 3 3 2 ann rule", wrong}, {"new 2 3 3 2 ann Rules allow", wrong}, {"new 2 3 3 2 ann, rules", wrong}, {"new 2 3 3 2 ,ann rules", wrong}, {"new 02 3 3 2 ann rules", wrong}, {"new 2 3 3 -2 ann rules", wrong}, {"new 2 3 3 1000000000000000000 ann rules", wrong}, {"new x 3 3 2 ann rules", wrong}, {"new 2 x 3 2 ann rules", wrong}, {"new 2 3 x 2 ann rules", wrong}, {"New 2 3 3 2 ann rules", wrong}, {"new 2 3 3 2 ann rulesallow", wrong},
	} {
		says(t, x.line, x.line, x.want)
		then := wrong
		if x.want == "ok 0" {
			then = "ok 0"
		}
		says(t, x.line+", and a tick", x.line+"\ntick 5", x.want, then)
		// What there was is there, if it tells an error.
		first := "new 2 3 3 2 ann,bob rules\njoin zoe\n"
		number := "ok 2"
		if x.want == "ok 0" {
			number = "ok 1"
		}
		says(t, x.line+", behind a world", first+x.line+"\njoin dan", "ok 0", "ok 1", x.want, number)
	}
}

// TestNumbersOfAWorld: which of the four is which.
func TestNumbersOfAWorld(t *testing.T) {
	behind := "\nbad 4\nbend 4 0 7\nown zoe a\njoin zoe\norder zoe a 16 5\ntoken zoe 1\nbend 0 0 7\nbend 1 0 7\nlook zoe 1"
	says(t, "3 of 4, 5 vantage points, 2 are needed", "new 3 4 5 2 ann rules"+behind, "ok 0", "ok 0", "ok 0", "ok 0", "ok 1", "ok 1", "ok 0", "ok 0", "ok 0", "ok 2")
	says(t, "3 of 4, 5 vantage points, 3 are needed", "new 3 4 5 3 ann rules"+behind, "ok 0", "ok 0", "ok 0", "ok 0", "ok 1", "ok 1", "ok 0", "ok 0", "ok 0", "error 230 2")
	says(t, "1 of 3, 4 vantage points", "new 1 3 4 2 ann rules"+behind, "ok 0", "error 1 0", "error 1 0", "ok 0", "ok 1", "ok 1", "ok 0", "ok 0", "ok 0", "ok 2")
	rogues := "\nbad 1\nbad 2\nbad 3\nrogue a 4"
	says(t, "2 of 3", "new 2 3 1 1 ann rules"+rogues, "ok 0", "ok 0", "ok 0", "ok 0", "ok 2")
	says(t, "1 of 3", "new 1 3 1 1 ann rules"+rogues, "ok 0", "ok 0", "ok 0", "ok 0", "ok 1")
	says(t, "clients in order", "new 1 1 1 1 cid,ann rules\nfetch cid 0\nfetch ann 0\nfetch bob 0", "ok 0", "ok 0", "ok 0", "error 131 0")
}

// P34.4

// TestAScriptDoesWhatItsDoingsDo: by world.New and world.Run.
func TestAScriptDoesWhatItsDoingsDo(t *testing.T) {
	rules, _, _ := rule.Parse([]byte("allow w { a, *.a; life 50; }"))
	w, e := world.New([]byte("seed"), 2, 3, 3, 2, rules, []string{"ann", "bob"})
	if e != api.OK {
		t.Fatal(e)
	}
	chance := rand.New(rand.NewSource(35))
	script := []string{"own zoe a", "own dan x.a", "join zoe", "join dan", "order zoe a 16 40", "token zoe 1", "look zoe 1", "issue zoe 1", "tick 20", "fetch ann 0", "fetch bob 0", "visit ann a 1"}
	pool := []string{"own zoe x.a", "own dan a", "put zoe y.a text t 9", "drop zoe y.a text t 9", "bend 1 0 7", "mend 1 0 7", "fake _seal.a text 1-1 9", "join eve", "order zoe a,x.a 16 30", "order dan x.a 16 9", "token zoe 2", "token dan 3", "look zoe 2", "look dan 3", "issue zoe 2", "issue zoe 3", "revoke zoe 1", "bad 1", "crash 2 7", "back 2", "split 0", "merge 1", "tick 3", "fetch ann 1", "fetch bob 1", "day bob", "visit bob a 1", "talk ann bob", "watch 0", "rogue q 4", "nothing", "tick 1 2", "issue zoe -1"}
	for range 120 {
		script = append(script, pool[chance.Intn(len(pool))])
	}
	want := []string{"ok 0"}
	for _, line := range script {
		d, e := console.Act(line)
		if e != api.OK {
			want = append(want, console.Say(api.Told{E: e}))
			continue
		}
		var told api.Told
		w, told = world.Do(w, d)
		want = append(want, console.Say(told))
	}
	says(t, "a script", begins+"\n"+strings.Join(script, "\n"), want...)
	// Blanks make no difference, nor do remarks.
	wide := strings.ReplaceAll("  "+begins+"\n"+strings.Join(script, " \n#x\n   "), " ", "  ")
	says(t, "a script with many blanks", wide, want...)
	// Each script begins anew.
	says(t, "a script again", begins+"\n"+strings.Join(script, "\n"), want...)
	says(t, "a script twice in one", begins+"\n"+strings.Join(script, "\n")+"\n"+begins+"\n"+strings.Join(script, "\n"), append(slices.Clone(want), want...)...)
}

// The chapter's examples

func TestExamples(t *testing.T) {
	makes(t, "tick 5", api.Do{Kind: api.TickDo, N: 5})
	if s := console.Say(api.Told{}); s != "ok 0" {
		t.Errorf("Say of nothing is %q", s)
	}
	says(t, "the example", "new 2 3 3 2 ann rules allow w { *.a; life 50; }\ntick 5\ntick x", "ok 0", "ok 0", "error 150 0")
}
