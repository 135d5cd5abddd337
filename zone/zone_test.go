package zone_test

import (
	"math"
	"slices"
	"strconv"
	"strings"
	"testing"

	"greatseal/api"
	"greatseal/zone"
)

func rec(name string, kind int, value string) api.Rec {
	return api.Rec{Name: name, Kind: kind, Value: value, Life: 5}
}

func text(name string) api.Rec { return rec(name, api.TextK, "t") }

func kinds() []int { return []int{api.TextK, api.CaaK, api.NsK, api.AliasK, api.HostK} }

func noKinds() []int {
	return []int{math.MinInt, -1, 0, 6, 7, 256 + api.TextK, 1<<32 + api.NsK, math.MaxInt}
}

func noLives() []int { return []int{math.MinInt, -1, 0, 1001, 1002, 1 << 32, math.MaxInt} }

func noNames() []string {
	return []string{"", ".", "a..b", ".a.b", "a.b.", "-a.b", "A.b", "*.a.b", "_", "a b", "ä.b", "a.\xff", strings.Repeat("a", 17) + ".b", "a.a.a.a.a.a.a.a.b", strings.Repeat("abcdefg.", 8) + "b"}
}

// inForm are records at a name, of each kind.
func inForm(name string) []api.Rec {
	l := []api.Rec{{Name: name, Kind: api.TextK, Value: "v", Life: 1}, {Name: name, Kind: api.TextK, Value: "v", Life: 1000}, {Name: name, Kind: api.TextK, Value: "v", Life: 500}}
	for _, kind := range []int{api.TextK, api.CaaK, api.HostK} {
		for _, value := range []string{"a", "!", "~", "!~", "-", "A_Z*.", "0", "9", strings.Repeat("x", 63), strings.Repeat("~", 64)} {
			l = append(l, rec(name, kind, value))
		}
	}
	for _, value := range []string{"0", "1", "2", "3", "4", "5", "6", "7"} {
		l = append(l, rec(name, api.NsK, value))
	}
	for _, value := range []string{"a", "z.z", "_a.b", name, "a.a.a.a.a.a.a.b", strings.Repeat("abcdefg.", 7) + "abcdefgh"} {
		l = append(l, rec(name, api.AliasK, value))
	}
	return l
}

// noForm are records at a name that is one, and at texts that are none.
func noForm(name string) []api.Rec {
	var l []api.Rec
	for _, value := range []string{"v", "3", "a.b"} {
		for _, kind := range noKinds() {
			l = append(l, rec(name, kind, value))
		}
		for _, life := range noLives() {
			l = append(l, api.Rec{Name: name, Kind: api.TextK, Value: value, Life: life})
		}
		for _, none := range noNames() {
			l = append(l, rec(none, api.TextK, value))
		}
	}
	l = append(l, api.Rec{}, api.Rec{Name: name, Kind: api.NsK, Value: "3"}, api.Rec{Name: name, Kind: api.AliasK, Value: "a", Life: 1001})
	for _, kind := range []int{api.TextK, api.CaaK, api.HostK} {
		for _, value := range []string{"", " ", "a ", " a", "a b", "\x7f", "a\x7f", "\x1f", "\n", "\x00", "ä", "a\xff", "\x80", strings.Repeat("x", 65), strings.Repeat("x", 1000), strings.Repeat("x", 63) + " "} {
			l = append(l, rec(name, kind, value))
		}
	}
	for _, value := range []string{"", "8", "9", "/", ":", "a", "-", "00", "03", "3 ", " 3", "77", "-1", "10", "+3", "\x03", "\uff13"} {
		l = append(l, rec(name, api.NsK, value))
	}
	for _, value := range noNames() {
		l = append(l, rec(name, api.AliasK, value))
	}
	return l
}

// many are so many records below a name, in order.
func many(number int, name string) []api.Rec {
	var l []api.Rec
	for k := range number {
		l = append(l, rec("x"+strconv.Itoa(1000+k)+"."+name, api.TextK, "v"))
	}
	return l
}

func of(apex string, l ...api.Rec) api.Zone { return api.Zone{Apex: apex, Recs: l} }

func same(a, b api.Zone) bool { return a.Apex == b.Apex && slices.Equal(a.Recs, b.Recs) }

func samePlace(a, b api.Rec) bool { return a.Name == b.Name && a.Kind == b.Kind && a.Value == b.Value }

// before is the chapter's order, by the texts' bytes.
func before(a, b api.Rec) bool {
	switch {
	case a.Name != b.Name:
		return a.Name < b.Name
	case a.Kind != b.Kind:
		return a.Kind < b.Kind
	}
	return a.Value < b.Value
}

// mayNot are zones that may not be, because of something else than how many records they have.
func mayNot() []api.Zone {
	var l []api.Zone
	for _, apex := range noNames()[1:] {
		l = append(l, of(apex), of(apex, text("a.b")), of(apex, rec(apex, api.TextK, "t")))
	}
	for _, wrong := range noForm("c.a.b") {
		l = append(l, of("a.b", wrong), of("", wrong), of("a.b", text("a.b"), wrong), of("a.b", wrong, text("z.a.b")))
	}
	for _, name := range []string{"b", "z.b", "aa.b", "xa.b", "a.b.c", "a", "c.b", "a.a"} {
		l = append(l, of("a.b", text(name)), of("a.b", text("a.b"), text(name)))
	}
	alias := rec("c.a.b", api.AliasK, "d.a.b")
	return append(l,
		// of one place
		of("a.b", text("a.b"), text("a.b")), of("", text("a"), api.Rec{Name: "a", Kind: api.TextK, Value: "t", Life: 7}),
		// out of order, by each thing
		of("a.b", text("d.a.b"), text("c.a.b")), of("a.b", text("c.a.b"), text("a.b")), of("a.b", text("a.b"), text("d.a.b"), text("c.a.b")), of("", text("a"), text("_a")), of("", text("a"), text("a-b"), text("a.b"), text("Z")), of("", text("a.b"), text("a-b")),
		of("a.b", rec("a.b", api.CaaK, "a"), rec("a.b", api.TextK, "b")), of("a.b", rec("a.b", api.HostK, "a"), rec("a.b", api.NsK, "3")),
		of("a.b", rec("a.b", api.TextK, "b"), rec("a.b", api.TextK, "a")), of("a.b", rec("a.b", api.TextK, "ab"), rec("a.b", api.TextK, "a")), of("a.b", rec("a.b", api.TextK, "a"), rec("a.b", api.TextK, "Z")),
		// beside an alias
		of("a.b", text("c.a.b"), alias), of("a.b", rec("c.a.b", api.NsK, "3"), alias), of("a.b", alias, rec("c.a.b", api.HostK, "h")), of("a.b", alias, rec("c.a.b", api.AliasK, "e.a.b")),
		of("a.b", text("a.b"), alias, rec("c.a.b", api.HostK, "h"), text("d.a.b")), of("", rec("a", api.AliasK, "a"), rec("a", api.AliasK, "b")),
	)
}

// mayBe are zones that may be, of each shape.
func mayBe() []api.Zone {
	l := []api.Zone{of(""), of("a"), of("a.b"), of("a.a.a.a.a.a.a.b"), of("a.b", many(64, "a.b")...), of("", many(64, "a.b")...), of("a.b", text("a.b"), rec("a.b", api.TextK, "u"), rec("a.b", api.CaaK, "a"), rec("a.b", api.NsK, "1"), rec("a.b", api.NsK, "2"), rec("a.b", api.HostK, "a"), text("c.a.b"))}
	for _, r := range append(inForm("c.a.b"), inForm("a.b")...) {
		l = append(l, of("a.b", r), of("", r), of("b", r), of("a.b", r, text("e.a.b")), of("", text("_"+r.Name), r))
	}
	return append(l,
		of("", text("a"), text("a-b"), text("a.b"), text("a0"), text("aa"), text("b")), of("", rec("a", api.TextK, "A"), rec("a", api.TextK, "Z"), rec("a", api.TextK, "a"), rec("a", api.TextK, "ab"), rec("a", api.TextK, "b")),
		of("a.b", rec("c.a.b", api.AliasK, "c.a.b"), text("d.a.b"), rec("e.a.b", api.AliasK, "z")), of("", rec("a", api.AliasK, "b"), text("a.a"), rec("b", api.AliasK, "a")),
	)
}

func tooMany() []api.Zone {
	return []api.Zone{of("a.b", many(65, "a.b")...), of("", many(66, "a.b")...), of("a.b", many(1000, "a.b")...)}
}

func checked(t *testing.T, want api.Errno, z api.Zone) {
	t.Helper()
	if e := zone.Check(z); e != want {
		t.Errorf("Check(%v) is %d, not %d", z, e, want)
	}
}

func put(t *testing.T, want, z api.Zone, r api.Rec) {
	t.Helper()
	if told, e := zone.Put(z, r); !same(told, want) || e != api.OK {
		t.Errorf("Put(%v, %v) is %v, %d, not %v", z, r, told, e, want)
	}
}

func notPut(t *testing.T, what string, want api.Errno, z api.Zone, r api.Rec) {
	t.Helper()
	if told, e := zone.Put(z, r); !same(told, api.Zone{}) || e != want {
		t.Errorf("%s: Put(%v, %v) is %v, %d, not %d", what, z, r, told, e, want)
	}
}

func dropped(t *testing.T, want, z api.Zone, r api.Rec) {
	t.Helper()
	if told, e := zone.Drop(z, r); !same(told, want) || e != api.OK {
		t.Errorf("Drop(%v, %v) is %v, %d, not %v", z, r, told, e, want)
	}
}

func notDropped(t *testing.T, what string, want api.Errno, z api.Zone, r api.Rec) {
	t.Helper()
	if told, e := zone.Drop(z, r); !same(told, api.Zone{}) || e != want {
		t.Errorf("%s: Drop(%v, %v) is %v, %d, not %d", what, z, r, told, e, want)
	}
}

func sameAnswer(a, b api.Answer) bool {
	return a.Kind == b.Kind && a.To == b.To && a.Alias == b.Alias && slices.Equal(a.Recs, b.Recs)
}

func asked(t *testing.T, want api.Answer, z api.Zone, name string, kind int) {
	t.Helper()
	if told, e := zone.Ask(z, name, kind); !sameAnswer(told, want) || e != api.OK {
		t.Errorf("Ask(%v, %q, %d) is %v, %d, not %v", z, name, kind, told, e, want)
	}
}

func notAsked(t *testing.T, what string, want api.Errno, z api.Zone, name string, kind int) {
	t.Helper()
	if told, e := zone.Ask(z, name, kind); !sameAnswer(told, api.Answer{}) || e != want {
		t.Errorf("%s: Ask(%v, %q, %d) is %v, %d, not %d", what, z, name, kind, told, e, want)
	}
}

// P12.1

func TestCheck(t *testing.T) {
	for _, z := range mayBe() {
		checked(t, api.OK, z)
	}
	for _, z := range mayNot() {
		checked(t, api.ErrArg, z)
	}
	for _, z := range tooMany() {
		checked(t, api.ErrBound, z)
	}
	// What may not be is told ahead of what is too much.
	for k := range 65 {
		for _, wrong := range []api.Rec{rec("z.b", api.TextK, "v"), rec("x1000.a.b", api.TextK, "v "), rec("x1000.a.b", 6, "v"), {}} {
			z := of("a.b", many(65, "a.b")...)
			z.Recs[k] = wrong
			checked(t, api.ErrArg, z)
		}
	}
	checked(t, api.ErrArg, of("a.b.", many(65, "a.b")...))
}

func TestNew(t *testing.T) {
	for _, apex := range []string{"", "a", "a.b", "_a.b", "a.a.a.a.a.a.a.b", strings.Repeat("abcdefg.", 7) + "abcdefgh"} {
		if z, e := zone.New(apex); !same(z, of(apex)) || e != api.OK || zone.Check(z) != api.OK {
			t.Errorf("New(%q) is %v, %d", apex, z, e)
		}
	}
	for _, apex := range noNames()[1:] {
		if z, e := zone.New(apex); !same(z, api.Zone{}) || e != api.ErrArg {
			t.Errorf("New(%q) is %v, %d", apex, z, e)
		}
	}
}

// P12.2

func TestPutStandsInOrder(t *testing.T) {
	all := []api.Rec{
		text("_a.a.b"), text("a-b.a.b"), text("a.b"), rec("a.b", api.TextK, "Z"), rec("a.b", api.TextK, "u"), rec("a.b", api.TextK, "tt"), rec("a.b", api.CaaK, "a"), rec("a.b", api.NsK, "7"), rec("a.b", api.NsK, "0"), rec("a.b", api.HostK, "!"),
		rec("c.a.b", api.AliasK, "a.b"), text("c.c.a.b"), text("cc.a.b"), rec("c-c.a.b", api.AliasK, "c.a.b"), text("x.y.z.a.b"),
	}
	for start := range all {
		z := of("a.b")
		var in []api.Rec
		for k := range all {
			r := all[(start+k*7)%len(all)]
			in = append(in, r)
			want := slices.Clone(in)
			slices.SortFunc(want, func(a, b api.Rec) int {
				if before(a, b) {
					return -1
				}
				return 1
			})
			put(t, of("a.b", want...), z, r)
			z, _ = zone.Put(z, r)
		}
		checked(t, api.OK, z)
	}
}

func TestPutInPlace(t *testing.T) {
	for _, z := range mayBe() {
		for k, r := range z.Recs {
			for _, life := range []int{1, 7, 1000} {
				r.Life = life
				want := of(z.Apex, slices.Clone(z.Recs)...)
				want.Recs[k] = r
				put(t, want, z, r)
			}
		}
	}
}

func TestPutOfEachForm(t *testing.T) {
	for _, r := range inForm("c.a.b") {
		put(t, of("a.b", r), of("a.b"), r)
		put(t, of("", r), of(""), r)
		put(t, of("c.a.b", r), of("c.a.b"), r)
		put(t, of("a.b", text("a.b"), r, text("d.a.b")), of("a.b", text("a.b"), text("d.a.b")), r)
	}
	for _, r := range noForm("c.a.b") {
		for _, z := range []api.Zone{of("a.b"), of(""), of("z"), of("a.b", rec("c.a.b", api.AliasK, "a")), of("a.b", many(64, "a.b")...)} {
			notPut(t, "no form", api.ErrArg, z, r)
		}
	}
}

func TestPutOfAnotherZone(t *testing.T) {
	for _, name := range []string{"b", "z.b", "aa.b", "xa.b", "a.b.c", "a", "c.b", "a.a"} {
		for _, r := range inForm(name) {
			notPut(t, "another zone's", api.ErrZone, of("a.b"), r)
			notPut(t, "another zone's, and no room", api.ErrZone, of("a.b", many(64, "a.b")...), r)
		}
	}
}

func TestPutBesideAnAlias(t *testing.T) {
	alias := rec("c.a.b", api.AliasK, "d.a.b")
	z := of("a.b", text("a.b"), alias, text("d.a.b"))
	for _, r := range inForm("c.a.b") {
		if r.Kind != api.AliasK || r.Value != alias.Value {
			notPut(t, "beside an alias", api.ErrZone, z, r)
			notPut(t, "beside an alias, and no room", api.ErrZone, of("a.b", append([]api.Rec{alias}, many(63, "a.b")...)...), r)
		}
		if r.Kind != api.AliasK {
			notPut(t, "an alias beside another", api.ErrZone, of("a.b", r), alias)
			notPut(t, "an alias beside others", api.ErrZone, of("a.b", text("c.a.b"), rec("c.a.b", api.TextK, "zzz")), alias)
		}
	}
	again := alias
	again.Life = 1000
	put(t, of("a.b", text("a.b"), again, text("d.a.b")), z, again)
	// An alias stands alone at its name alone.
	put(t, of("a.b", text("a.b"), alias, text("c.c.a.b"), text("d.a.b")), z, text("c.c.a.b"))
	put(t, of("a.b", text("a.b"), rec("b.a.b", api.AliasK, "a.b"), alias, text("d.a.b")), z, rec("b.a.b", api.AliasK, "a.b"))
}

func TestPutOfTheSixtyFifth(t *testing.T) {
	l := many(64, "a.b")
	put(t, of("a.b", l...), of("a.b", l[1:]...), l[0])
	put(t, of("a.b", l...), of("a.b", l[:63]...), l[63])
	full := of("a.b", l...)
	for _, r := range []api.Rec{text("a.b"), text("z.a.b"), rec("x1000.a.b", api.TextK, "w"), rec("x1030.a.b", api.HostK, "v"), rec("y.a.b", api.AliasK, "a.b")} {
		notPut(t, "no room", api.ErrBound, full, r)
	}
	for k, r := range l {
		r.Life = 9
		want := of("a.b", slices.Clone(l)...)
		want.Recs[k] = r
		put(t, want, full, r)
	}
}

func TestPutAndDropOfZonesThatMayNotBe(t *testing.T) {
	for _, z := range mayNot() {
		for _, r := range []api.Rec{text("a.b"), text("z.b"), {}} {
			notPut(t, "may not be", api.ErrArg, z, r)
			notDropped(t, "may not be", api.ErrArg, z, r)
		}
		for _, r := range z.Recs {
			notDropped(t, "may not be", api.ErrArg, z, r)
		}
	}
	for _, z := range tooMany() {
		for _, r := range []api.Rec{text("a.b"), text("z.z"), {}, z.Recs[0], z.Recs[64]} {
			notPut(t, "too many", api.ErrBound, z, r)
			notDropped(t, "too many", api.ErrBound, z, r)
		}
	}
}

func TestDrop(t *testing.T) {
	for _, z := range mayBe() {
		for k, r := range z.Recs {
			want := of(z.Apex, slices.Delete(slices.Clone(z.Recs), k, k+1)...)
			for _, life := range []int{r.Life, math.MinInt, 0, 1001} {
				r.Life = life
				dropped(t, want, z, r)
			}
			for _, other := range []api.Rec{rec(r.Name, r.Kind, r.Value+"9"), rec(r.Name, r.Kind, ""), rec(r.Name, 0, r.Value), rec(r.Name, r.Kind+10, r.Value), rec("q9."+r.Name, r.Kind, r.Value), rec("", r.Kind, r.Value), {}} {
				notDropped(t, "not there", api.ErrZone, z, other)
			}
		}
		notDropped(t, "not there", api.ErrZone, z, rec("q.q", api.TextK, "q"))
	}
}

// P12.3

func TestExamples(t *testing.T) {
	l := []api.Rec{text("c.a.b"), rec("d.a.b", api.NsK, "3")}
	z := of("a.b", l...)
	asked(t, api.Answer{Kind: api.FoundA, Recs: l[:1]}, z, "c.a.b", api.TextK)
	asked(t, api.Answer{Kind: api.NoneA}, z, "c.a.b", api.HostK)
	asked(t, api.Answer{Kind: api.NoneA}, z, "a.b", api.TextK)
	asked(t, api.Answer{Kind: api.GoneA}, z, "e.a.b", api.TextK)
	asked(t, api.Answer{Kind: api.CutA, To: 3, Recs: l[1:]}, z, "x.d.a.b", api.TextK)
	notAsked(t, "another zone's", api.ErrZone, z, "z.b", api.TextK)
}

func TestAskAtACut(t *testing.T) {
	low, high := rec("x.d.a.b", api.NsK, "2"), rec("d.a.b", api.NsK, "0")
	more, apex := rec("d.a.b", api.NsK, "5"), rec("a.b", api.NsK, "7")
	z := of("a.b", apex, text("a.b"), text("c.a.b"), text("d.a.b"), high, more, rec("d.a.b", api.HostK, "h"), rec("y.x.d.a.b", api.AliasK, "a.b"), text("z.d.a.b"), low)
	slices.SortFunc(z.Recs, func(a, b api.Rec) int {
		if before(a, b) {
			return -1
		}
		return 1
	})
	for _, kind := range kinds() {
		for _, name := range []string{"d.a.b", "x.d.a.b", "y.x.d.a.b", "z.d.a.b", "q.d.a.b", "q.q.q.q.q.d.a.b"} {
			asked(t, api.Answer{Kind: api.CutA, To: 0, Recs: []api.Rec{high}}, z, name, kind)
		}
		if kind != api.TextK {
			asked(t, api.Answer{Kind: api.NoneA}, z, "c.a.b", kind)
		}
		asked(t, api.Answer{Kind: api.GoneA}, z, "dd.a.b", kind)
		asked(t, api.Answer{Kind: api.GoneA}, z, "q.c.a.b", kind)
	}
	// At the apex there is no cut.
	asked(t, api.Answer{Kind: api.FoundA, Recs: []api.Rec{apex}}, z, "a.b", api.NsK)
	asked(t, api.Answer{Kind: api.FoundA, Recs: []api.Rec{text("a.b")}}, z, "a.b", api.TextK)
	asked(t, api.Answer{Kind: api.NoneA}, z, "a.b", api.HostK)
	// With another apex it is one.
	for _, wide := range []string{"", "b"} {
		z.Apex = wide
		asked(t, api.Answer{Kind: api.CutA, To: 7, Recs: []api.Rec{apex}}, z, "a.b", api.NsK)
		asked(t, api.Answer{Kind: api.CutA, To: 7, Recs: []api.Rec{apex}}, z, "q.d.a.b", api.TextK)
		asked(t, api.Answer{Kind: api.NoneA}, z, "b", api.TextK)
	}
	for digit := range 8 {
		r := rec("d.a.b", api.NsK, strconv.Itoa(digit))
		asked(t, api.Answer{Kind: api.CutA, To: digit, Recs: []api.Rec{r}}, of("a.b", r), "d.a.b", api.TextK)
	}
}

func TestAskAtAnAlias(t *testing.T) {
	alias := rec("c.a.b", api.AliasK, "z.z")
	z := of("a.b", alias, text("x.c.a.b"))
	for _, kind := range kinds() {
		if kind == api.AliasK {
			asked(t, api.Answer{Kind: api.FoundA, Recs: []api.Rec{alias}}, z, "c.a.b", kind)
		} else {
			asked(t, api.Answer{Kind: api.AliasA, Alias: "z.z", Recs: []api.Rec{alias}}, z, "c.a.b", kind)
		}
		// An alias says nothing of what is below it.
		asked(t, api.Answer{Kind: api.GoneA}, z, "y.c.a.b", kind)
	}
	asked(t, api.Answer{Kind: api.FoundA, Recs: []api.Rec{text("x.c.a.b")}}, z, "x.c.a.b", api.TextK)
	asked(t, api.Answer{Kind: api.NoneA}, z, "x.c.a.b", api.AliasK)
	asked(t, api.Answer{Kind: api.NoneA}, z, "a.b", api.AliasK)
}

func TestAskFindsAllInOrder(t *testing.T) {
	l := []api.Rec{rec("a.b", api.TextK, "a"), rec("a.b", api.TextK, "b"), rec("a.b", api.TextK, "c"), rec("a.b", api.CaaK, "a"), rec("a.b", api.NsK, "1"), rec("a.b", api.NsK, "2"), rec("a.b", api.HostK, "a"), rec("a.b", api.HostK, "b")}
	z := of("a.b", append(slices.Clone(l), text("aa.a.b"))...)
	asked(t, api.Answer{Kind: api.FoundA, Recs: l[:3]}, z, "a.b", api.TextK)
	asked(t, api.Answer{Kind: api.FoundA, Recs: l[3:4]}, z, "a.b", api.CaaK)
	asked(t, api.Answer{Kind: api.FoundA, Recs: l[4:6]}, z, "a.b", api.NsK)
	asked(t, api.Answer{Kind: api.FoundA, Recs: l[6:]}, z, "a.b", api.HostK)
	asked(t, api.Answer{Kind: api.NoneA}, z, "a.b", api.AliasK)
	full := of("a.b", many(64, "a.b")...)
	for _, r := range full.Recs {
		asked(t, api.Answer{Kind: api.FoundA, Recs: []api.Rec{r}}, full, r.Name, api.TextK)
		asked(t, api.Answer{Kind: api.NoneA}, full, r.Name, api.HostK)
	}
}

func TestAskOfNothing(t *testing.T) {
	for _, apex := range []string{"", "b", "a.b"} {
		asked(t, api.Answer{Kind: api.GoneA}, of(apex), "a.b", api.TextK)
		asked(t, api.Answer{Kind: api.GoneA}, of(apex), "c.a.b", api.HostK)
	}
	// A name is there if something is below it, but not if something only ends alike, or is above it.
	z := of("b", text("x.c.b"), text("yd.b"))
	asked(t, api.Answer{Kind: api.NoneA}, z, "c.b", api.TextK)
	asked(t, api.Answer{Kind: api.NoneA}, z, "b", api.TextK)
	asked(t, api.Answer{Kind: api.GoneA}, z, "d.b", api.TextK)
	asked(t, api.Answer{Kind: api.GoneA}, z, "y.c.b", api.TextK)
	asked(t, api.Answer{Kind: api.GoneA}, z, "z.x.c.b", api.TextK)
	asked(t, api.Answer{Kind: api.NoneA}, of("", text("x.c.b")), "b", api.TextK)
	asked(t, api.Answer{Kind: api.GoneA}, of("", text("x.c.b")), "c", api.TextK)
}

func TestAskOfWhatMayNotBe(t *testing.T) {
	for _, z := range mayNot() {
		for _, kind := range append(kinds(), 0) {
			notAsked(t, "may not be", api.ErrArg, z, "c.a.b", kind)
		}
		notAsked(t, "may not be", api.ErrArg, z, "z.z", api.TextK)
	}
	for _, z := range tooMany() {
		notAsked(t, "too many", api.ErrBound, z, z.Recs[0].Name, api.TextK)
		notAsked(t, "too many", api.ErrBound, z, "", api.TextK)
		notAsked(t, "too many", api.ErrBound, z, "z.z", 0)
	}
	z := of("a.b", text("a.b"), rec("c.a.b", api.NsK, "1"))
	for _, name := range noNames() {
		for _, kind := range append(kinds(), noKinds()...) {
			notAsked(t, "no name", api.ErrArg, z, name, kind)
			notAsked(t, "no name", api.ErrArg, of(""), name, kind)
		}
	}
	for _, kind := range noKinds() {
		for _, name := range []string{"a.b", "c.a.b", "z.b", "b", "z.z"} {
			notAsked(t, "no kind", api.ErrArg, z, name, kind)
		}
	}
	for _, name := range []string{"b", "z.b", "aa.b", "xa.b", "a.b.c", "a", "c.b", "a.a"} {
		for _, kind := range kinds() {
			notAsked(t, "another zone's", api.ErrZone, z, name, kind)
		}
	}
}

// answerOf is what the chapter says of Ask, of what may be.
func answerOf(z api.Zone, name string, kind int) api.Answer {
	labels := strings.Split(name, ".")
	for k := range labels {
		// From the name of the fewest labels on.
		above := strings.Join(labels[len(labels)-1-k:], ".")
		if above == z.Apex || z.Apex != "" && !strings.HasSuffix(above, "."+z.Apex) {
			continue
		}
		for _, r := range z.Recs {
			if r.Name == above && r.Kind == api.NsK {
				to, _ := strconv.Atoi(r.Value)
				return api.Answer{Kind: api.CutA, To: to, Recs: []api.Rec{r}}
			}
		}
	}
	found := api.Answer{Kind: api.FoundA}
	none := false
	for _, r := range z.Recs {
		if r.Name == name && r.Kind == api.AliasK && kind != api.AliasK {
			return api.Answer{Kind: api.AliasA, Alias: r.Value, Recs: []api.Rec{r}}
		}
		if r.Name == name && r.Kind == kind {
			found.Recs = append(found.Recs, r)
		}
		none = none || r.Name == name || strings.HasSuffix(r.Name, "."+name)
	}
	switch {
	case len(found.Recs) > 0:
		return found
	case none:
		return api.Answer{Kind: api.NoneA}
	}
	return api.Answer{Kind: api.GoneA}
}

// strewn are zones of that apex, the same ones in each run, of records at few names.
func strewn(t *testing.T, apex string, number int) []api.Zone {
	t.Helper()
	all := []string{"b", "a.b", "c.a.b", "d.a.b", "x.c.a.b", "y.c.a.b", "x.d.a.b", "z.x.d.a.b", "cc.a.b", "z"}
	values := map[int][]string{api.TextK: {"t", "u"}, api.CaaK: {"t"}, api.NsK: {"0", "7"}, api.AliasK: {"a.b", "z"}, api.HostK: {"h"}}
	state := uint64(88172645463325252)
	next := func(below int) int {
		state ^= state << 13
		state ^= state >> 7
		state ^= state << 17
		return int(state % uint64(below))
	}
	var zones []api.Zone
	for range number {
		z := of(apex)
		for range next(12) {
			kind := kinds()[next(5)]
			r := rec(all[next(len(all))], kind, values[kind][next(len(values[kind]))])
			if more, e := zone.Put(z, r); e == api.OK {
				z = more
			}
		}
		zones = append(zones, z)
	}
	return zones
}

func TestAskOfManyZones(t *testing.T) {
	seen := map[int]int{}
	for _, apex := range []string{"", "b", "a.b"} {
		for _, z := range strewn(t, apex, 400) {
			for _, name := range []string{"b", "a.b", "c.a.b", "d.a.b", "x.c.a.b", "y.c.a.b", "x.d.a.b", "z.x.d.a.b", "q.z.x.d.a.b", "cc.a.b", "q.a.b", "a.cc.a.b", "z", "a.z"} {
				for _, kind := range kinds() {
					if apex != "" && name != apex && !strings.HasSuffix(name, "."+apex) {
						notAsked(t, "another zone's", api.ErrZone, z, name, kind)
						continue
					}
					want := answerOf(z, name, kind)
					seen[want.Kind]++
					asked(t, want, z, name, kind)
				}
			}
		}
	}
	for kind := api.FoundA; kind <= api.AliasA; kind++ {
		if seen[kind] < 100 {
			t.Errorf("only %d answers are of the kind %d", seen[kind], kind)
		}
	}
}

// P12.4

func best(t *testing.T, at int, found bool, l []api.Zone, name string) {
	t.Helper()
	if told, ok := zone.Best(l, name); told != at || ok != found {
		t.Errorf("Best(%v, %q) is %d, %v, not %d, %v", l, name, told, ok, at, found)
	}
}

func TestBest(t *testing.T) {
	l := []api.Zone{of("b"), of("a.b"), of("c.a.b"), of("a.b", text("a.b")), of(""), of("z.z"), of("c.a.b"), of("")}
	best(t, 2, true, l, "c.a.b")
	best(t, 2, true, l, "x.y.c.a.b")
	best(t, 1, true, l, "a.b")
	best(t, 1, true, l, "d.a.b")
	best(t, 0, true, l, "b")
	best(t, 0, true, l, "aa.b")
	best(t, 4, true, l, "a")
	best(t, 5, true, l, "z.z")
	best(t, 4, true, l, "z")
	best(t, 0, false, l[:4], "a")
	best(t, 0, false, l[5:6], "z")
	slices.Reverse(l)
	best(t, 1, true, l, "c.a.b")
	best(t, 4, true, l, "a.b")
	best(t, 7, true, l, "b")
	best(t, 0, true, l, "a")
	best(t, 0, false, nil, "a.b")
	best(t, 0, false, []api.Zone{}, "a.b")
}

func TestBestOfWhatMayNotBe(t *testing.T) {
	for _, name := range noNames() {
		best(t, 0, false, []api.Zone{of(""), of("b"), of(name), of("a.b")}, name)
	}
	for _, wrong := range append(mayNot(), tooMany()...) {
		for _, name := range []string{"a.b", "c.a.b", "x1000.a.b"} {
			best(t, 0, false, []api.Zone{wrong}, name)
			best(t, 1, true, []api.Zone{wrong, of("")}, name)
			best(t, 1, true, []api.Zone{wrong, of("b"), wrong}, name)
			best(t, 0, true, []api.Zone{of("b"), wrong}, name)
		}
	}
}

// P12.5

func TestWhatIsPutIsToldTillItIsDropped(t *testing.T) {
	for _, apex := range []string{"", "b", "a.b"} {
		for _, z := range strewn(t, apex, 60) {
			for _, r := range slices.Concat(inForm("n.a.b")[:8], inForm("a.b"), inForm("c.a.b")) {
				with, e := zone.Put(z, r)
				if e != api.OK {
					continue
				}
				told, _ := zone.Ask(with, r.Name, r.Kind)
				if told.Kind != api.CutA && !(told.Kind == api.FoundA && slices.Contains(told.Recs, r)) {
					t.Errorf("in %v %v is not told, but %v", with, r, told)
				}
				without, e := zone.Drop(with, r)
				if e != api.OK || slices.ContainsFunc(without.Recs, func(other api.Rec) bool { return samePlace(other, r) }) {
					t.Errorf("%v is not dropped from %v", r, with)
				}
				if told, _ := zone.Ask(without, r.Name, r.Kind); slices.Contains(told.Recs, r) && told.Kind == api.FoundA {
					t.Errorf("%v is told, though it was dropped", r)
				}
				if !slices.ContainsFunc(z.Recs, func(other api.Rec) bool { return samePlace(other, r) }) && !same(without, z) {
					t.Errorf("with %v put and dropped %v is %v", r, z, without)
				}
			}
		}
	}
}

// R2, R6

func TestNothingIsChangedOrShared(t *testing.T) {
	l := []api.Rec{text("a.b"), text("c.a.b"), rec("d.a.b", api.NsK, "1")}
	spare := append(slices.Clone(l), api.Rec{}, api.Rec{})[:3]
	z := of("a.b", spare...)
	new1, _ := zone.Put(z, text("b.a.b"))
	new2, _ := zone.Put(z, api.Rec{Name: "a.b", Kind: api.TextK, Value: "t", Life: 9})
	new3, _ := zone.Drop(z, l[1])
	first, _ := zone.Ask(z, "c.a.b", api.TextK)
	second, _ := zone.Ask(z, "d.a.b", api.TextK)
	zone.Best([]api.Zone{z}, "a.b")
	if !slices.Equal(spare[:5], append(slices.Clone(l), api.Rec{}, api.Rec{})) {
		t.Errorf("what was handed in is changed: %v", spare[:5])
	}
	told := [][]api.Rec{new1.Recs, new2.Recs, new3.Recs, first.Recs, second.Recs}
	var was [][]api.Rec
	for _, recs := range told {
		was = append(was, slices.Clone(recs))
	}
	clear(spare[:5])
	for k, recs := range told {
		if !slices.Equal(recs, was[k]) {
			t.Errorf("what was told changes with what was handed in: %v", recs)
		}
	}
	copy(spare, l)
	for _, recs := range told {
		clear(recs[:cap(recs)])
	}
	if !slices.Equal(spare, l) {
		t.Errorf("what was handed in changes with what was told: %v", spare)
	}
}
