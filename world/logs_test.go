package world_test

import (
	"math"
	"slices"
	"testing"

	"greatseal/api"
	"greatseal/logd"
	"greatseal/merkle"
	"greatseal/report"
	"greatseal/world"
)

// P32.3: the logs, and what watches them

func TestSplitAndMerge(t *testing.T) {
	w := grown(t)
	for n := range 2 {
		does(t, "nothing to hide", w, split(n), api.ErrLog, 0)
		x := does(t, "merged", w, merge(n), api.OK, 0)
		if len(x.Logs[n].L) != 1 || len(x.Logs[n].Wait) != 0 || len(x.Logs[1-n].Wait) != 1 || len(x.Events) != len(w.Events) {
			t.Errorf("the logs are %v", x.Logs)
		}
		y := does(t, "split", x, split(n), api.OK, 0)
		if !slices.Equal(y.Logs[n].Hide, []int{0}) || len(y.Logs[1-n].Hide) != 0 || last(y.Events) != (api.Event{Kind: api.SplitE, At: 3, N: n}) {
			t.Errorf("the logs are %v, the event %v", y.Logs, last(y.Events))
		}
		if z := does(t, "split again", y, split(n), api.OK, 0); len(z.Events) != len(w.Events)+2 || !same(z.Logs, y.Logs) {
			t.Errorf("the events are %v", z.Events)
		}
		does(t, "nothing waits", x, merge(n), api.OK, 0)
	}
	for _, n := range []int{math.MinInt, -1, 2, 3, math.MaxInt} {
		for _, w := range []api.World{begin(t), w, issued(t)} {
			does(t, "no log", w, split(n), api.ErrArg, 0)
			does(t, "no log", w, merge(n), api.ErrArg, 0)
			does(t, "no log", w, watch(n), api.ErrArg, 0)
		}
	}
}

func TestTick(t *testing.T) {
	w := grown(t)
	for _, n := range []int{0, 1, 16, 17, 100, api.MaxTime - 3} {
		x := does(t, "time goes by", w, tick(n), api.OK, 0)
		merged := 3+n >= 20
		if x.Now != 3+n || len(x.Logs[0].L) == 1 != merged || len(x.Logs[1].L) == 1 != merged || !same(x.Events, w.Events) {
			t.Errorf("%d behind, the logs are %v", n, x.Logs)
		}
	}
	for _, n := range []int{math.MinInt, -1, api.MaxTime - 2, api.MaxTime, api.MaxTime + 1, math.MaxInt} {
		does(t, "no time", w, tick(n), api.ErrArg, 0)
	}
	end := at(w, api.MaxTime)
	does(t, "at the end of all time", end, tick(0), api.OK, 0)
	does(t, "behind the end of all time", end, tick(1), api.ErrArg, 0)
	does(t, "all time", begin(t), tick(api.MaxTime), api.OK, 0)
	does(t, "more than all time", begin(t), tick(api.MaxTime+1), api.ErrArg, 0)
	// Each log by its own delay, and by what waits longest.
	x := but(w, func(w *api.World) {
		w.Logs[0].Delay = 0
		w.Logs[1].Wait = []api.Leaf{{Body: []byte("new"), At: 900}, {Body: []byte("old"), At: 2}, {Body: []byte("newer"), At: 950}}
	})
	for n, want := range map[int][2]int{0: {1, 0}, 18: {1, 0}, 19: {1, 3}} {
		if y := does(t, "time goes by", x, tick(n), api.OK, 0); len(y.Logs[0].L) != want[0] || len(y.Logs[1].L) != want[1] {
			t.Errorf("%d behind, the logs are %v", n, y.Logs)
		}
	}
	late := but(w, func(w *api.World) { w.Logs[0].Wait[0].At = api.MaxTime })
	if y := does(t, "what is promised late", late, tick(api.MaxTime-3), api.OK, 0); len(y.Logs[0].L) != 0 || len(y.Logs[1].L) != 1 {
		t.Errorf("the logs are %v", y.Logs)
	}
}

func TestWatch(t *testing.T) {
	w := issued(t)
	for n := range 2 {
		if x := does(t, "nothing strange", w, watch(n), api.OK, 0); !same(x, w) {
			t.Errorf("a watch changes the world")
		}
		x := does(t, "nobody has booked it", but(w, func(w *api.World) { w.Books = nil }), watch(n), api.OK, 1)
		if len(x.Reports) != 0 {
			t.Errorf("the reports are %v", x.Reports)
		}
		does(t, "booked too late", but(w, func(w *api.World) { w.Books[0].At = 1 }), watch(n), api.OK, 1)
		does(t, "nothing is in it", grown(t), watch(n), api.OK, 0)
	}
	strange := but(w, func(w *api.World) {
		pre := w.Logs[0].L[0].Body
		other := slices.Clone(pre)
		other[len(other)-5]++
		w.Logs[0].L = append(w.Logs[0].L, api.Leaf{Body: []byte("no certificate")}, api.Leaf{Body: other}, api.Leaf{Body: append(slices.Clone(pre), 0)})
	})
	does(t, "what is no certificate is not strange", strange, watch(0), api.OK, 0)
}

func TestWatchOfWhatIsMissing(t *testing.T) {
	// Two certificates were promised; the logs have taken in nothing, but at one log the second one.
	w := doesAll(t, grown(t), look("bob", 2), issues("bob", 2), tick(3))
	pre := w.Logs[1].Wait[1]
	w.Logs[1].L, w.Logs[1].Wait = []api.Leaf{pre}, nil
	for _, x := range []struct {
		log, now int
		due      []int
	}{{0, 20, nil}, {0, 21, []int{0}}, {0, 24, []int{0}}, {1, 20, nil}, {1, 21, []int{0}}, {1, 24, []int{0}}} {
		y := at(w, x.now)
		z := does(t, "watched", y, watch(x.log), api.OK, 0)
		if len(x.due) != len(z.Reports) {
			t.Errorf("at %d, of the log %d, the reports are %v", x.now, x.log, z.Reports)
			continue
		}
		if len(x.due) == 0 {
			continue
		}
		r := z.Reports[0]
		if r.Kind != api.BrokeR || r.Party != x.log || r.Promise != w.Certs[0].Proms[x.log] || r.Heads[0].At != x.now || report.Check(r, world.Keys(z), z.Crew, z.Policy) != api.OK {
			t.Errorf("the report is %v", r)
		}
		// Both views tell the same, which is one report; watched again, too, but not at another time.
		if again := does(t, "watched again", z, watch(x.log), api.OK, 0); len(again.Reports) != 1 {
			t.Errorf("the reports are %v", again.Reports)
		}
		if again := does(t, "watched later", at(z, x.now+1), watch(x.log), api.OK, 0); len(again.Reports) != 2 {
			t.Errorf("the reports are %v", again.Reports)
		}
	}
}

// TestWatchOfASplitLog: the second view has not what it shows otherwise.
func TestWatchOfASplitLog(t *testing.T) {
	w := doesAll(t, issued(t), split(1))
	does(t, "the other log", w, watch(0), api.OK, 0)
	x := does(t, "the split one", w, watch(1), api.OK, 0)
	if len(x.Reports) != 1 || x.Reports[0].Kind != api.BrokeR || x.Reports[0].Party != 1 {
		t.Fatalf("the reports are %v", x.Reports)
	}
	leaves, _ := logd.Leaves(w.Logs[1], 1)
	if r := x.Reports[0]; !slices.Equal(r.Leaves, leaves) || r.Heads[0].Root != merkle.Root(leaves) {
		t.Errorf("the report is %v", r)
	}
	// Both views, of which each lacks something else.
	both := but(w, func(w *api.World) {
		w.Certs = append(w.Certs, w.Certs[0])
		w.Certs[0].Proms = slices.Clone(w.Certs[0].Proms)
		w.Certs[0].Proms[1].Leaf[0]++
		w.Certs[1].Serial = 2
	})
	y := does(t, "both views", both, watch(1), api.OK, 0)
	if len(y.Reports) != 2 || y.Reports[0].Leaves[0] == y.Reports[1].Leaves[0] || y.Reports[0].Promise != both.Certs[0].Proms[1] {
		t.Errorf("the reports are %v", y.Reports)
	}
	// What the second view shows is not strange, nor what is strange in it is told.
	if y := does(t, "nobody has booked it", but(w, func(w *api.World) { w.Books = nil }), watch(1), api.OK, 1); len(y.Reports) != 1 {
		t.Errorf("the reports are %v", y.Reports)
	}
}
