package world

import (
	"slices"

	"greatseal/api"
	"greatseal/logd"
	"greatseal/monitor"
	"greatseal/report"
)

// In which view it is looked at what nobody has ordered.
const watchedView = 0

func (w *work) split() {
	w.turnLog(logd.Hide)
	w.happened(api.Event{Kind: api.SplitE, N: w.do.N})
}

func (w *work) merge() { w.turnLog(logd.Merge) }

// log is the one of the number of what is done.
func (w *work) log() api.Log {
	need(w.do.N >= 0 && w.do.N < logs, api.ErrArg)
	return w.Logs[w.do.N]
}

func (w *work) turnLog(turn func(l api.Log) (api.Log, api.Errno)) {
	w.Logs = turned(w.Logs, w.do.N, got(turn(w.log())))
}

func (w *work) tick() {
	need(w.do.N >= 0 && w.do.N <= api.MaxTime-w.Now, api.ErrArg)
	w.Now += w.do.N
	for at, l := range w.Logs {
		if slices.ContainsFunc(l.Wait, func(leaf api.Leaf) bool { return leaf.At+l.Delay <= w.Now }) {
			w.Logs = turned(w.Logs, at, got(logd.Merge(l)))
		}
	}
}

func (w *work) watch() {
	l := w.log()
	for view := range views {
		w.watchView(l, view)
	}
	w.told.N = len(monitor.Strange(got(monitor.Certs(l, watchedView)), w.Books))
}

// watchView reports the first promise that a log has not kept in a view.
func (w *work) watchView(l api.Log, view int) {
	promises := w.promisesOf(l.Id)
	leaves := got(logd.Leaves(l, view))
	head := got(logd.Head(l, view, len(leaves), w.Now))
	if missing := monitor.Missing(promises, head, leaves, got(logd.Public(l))); len(missing) > 0 {
		w.reported(report.Broke(promises[missing[0]], head, leaves))
	}
}

func (w *work) promisesOf(log int) []api.Promise {
	var l []api.Promise
	for _, c := range w.Certs {
		for _, p := range c.Proms {
			if p.Log == log {
				l = append(l, p)
			}
		}
	}
	return l
}
