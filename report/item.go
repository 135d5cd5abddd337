package report

import (
	"greatseal/api"
	"greatseal/der"
)

// cell is where a number of a report stands, of whatever type that is.
type cell struct {
	tell func() int
	fill func(n int)
}

// itemOf is that of a report that has form.
func itemOf(r api.Report) api.Item {
	items := ints(cellOf(&r.Kind), cellOf(&r.Party))
	for at := range r.Heads {
		items = append(items, row(ofHead(&r.Heads[at])...))
	}
	switch r.Kind {
	case api.BrokeR:
		items = append(items, row(ofPromise(&r.Promise)...), row(gather(r.Leaves, ofSum)...))
	case api.RogueR:
		items = append(items, der.Oct(r.Body), row(gather(r.Commits, ofShare)...))
		items = append(items, ints(ofShare(&r.Part)...)...)
	}
	return der.Seq(items...)
}

// reportOf is what an item tells, if it has a report's shape: whether that has form is another question.
func reportOf(x api.Item) (r api.Report, is bool) {
	items, e := der.AsSeq(x)
	is = e == api.OK
	// Where none is left, what is read is no item.
	next := func() (x api.Item) {
		if len(items) > 0 {
			x, items = items[0], items[1:]
		}
		return x
	}
	numbers := func(cells ...cell) {
		for _, c := range cells {
			is = fill([]api.Item{next()}, c) && is
		}
	}
	row := func(x api.Item, cells ...cell) {
		l, e := der.AsSeq(x)
		is = e == api.OK && fill(l, cells...) && is
	}
	numbers(cellOf(&r.Kind), cellOf(&r.Party))
	r.Heads = make([]api.Head, headsOf(r.Kind))
	for at := range r.Heads {
		row(next(), ofHead(&r.Heads[at])...)
	}
	switch r.Kind {
	case api.BrokeR:
		row(next(), ofPromise(&r.Promise)...)
		leaves := next()
		r.Leaves = room(leaves, ofSum)
		row(leaves, gather(r.Leaves, ofSum)...)
	case api.RogueR:
		body, e := der.AsOct(next())
		r.Body, is = body, e == api.OK && is
		commits := next()
		r.Commits = room(commits, ofShare)
		row(commits, gather(r.Commits, ofShare)...)
		numbers(ofShare(&r.Part)...)
	}
	return r, is && len(items) == 0
}

func cellOf[T int | uint64](p *T) cell {
	return cell{tell: func() int { return int(*p) }, fill: func(n int) { *p = T(n) }}
}

func ofSum(s *api.Sum) []cell { return []cell{cellOf(&s[0]), cellOf(&s[1])} }

func ofSig(s *api.Sig) []cell { return []cell{cellOf(&s.E), cellOf(&s.S)} }

func ofShare(s *api.Share) []cell { return []cell{cellOf(&s.Id), cellOf(&s.X)} }

func ofHead(h *api.Head) []cell {
	cells := append([]cell{cellOf(&h.Log), cellOf(&h.Size)}, ofSum(&h.Root)...)
	return append(append(cells, cellOf(&h.At)), ofSig(&h.Sig)...)
}

func ofPromise(p *api.Promise) []cell {
	cells := append([]cell{cellOf(&p.Log), cellOf(&p.At)}, ofSum(&p.Leaf)...)
	return append(cells, ofSig(&p.Sig)...)
}

// gather are the cells of all of a list, one behind the other.
func gather[T any](l []T, of func(x *T) []cell) []cell {
	var cells []cell
	for at := range l {
		cells = append(cells, of(&l[at])...)
	}
	return cells
}

// room is a list of as many as a row's numbers make.
func room[T any](row api.Item, of func(x *T) []cell) []T {
	return make([]T, len(row.L)/len(of(new(T))))
}

func ints(cells ...cell) []api.Item {
	items := make([]api.Item, 0, len(cells))
	for _, c := range cells {
		items = append(items, der.Int(c.tell()))
	}
	return items
}

func row(cells ...cell) api.Item { return der.Seq(ints(cells...)...) }

// fill puts a number in each cell, if there are as many, and all are numbers.
func fill(l []api.Item, cells ...cell) bool {
	if len(l) != len(cells) {
		return false
	}
	for at, c := range cells {
		n, e := der.AsInt(l[at])
		if e != api.OK {
			return false
		}
		c.fill(n)
	}
	return true
}
