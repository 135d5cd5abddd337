package logd

import (
	"bytes"
	"slices"

	"greatseal/api"
	"greatseal/hash"
	"greatseal/merkle"
)

const numberBytes = 8

func isNumber(n int) bool { return n >= 0 && n <= api.MaxTime }

func isBody(b []byte) bool { return len(b) >= 1 && len(b) <= api.MaxBody }

func isSize(l api.Log, size int) bool { return size >= 0 && size <= len(l.L) }

// many is how many leaves a log has, or has promised to have.
func many(l api.Log) int { return len(l.L) + len(l.Wait) }

func mayBe(l api.Log) bool {
	if !isNumber(l.Id) || l.Key < 1 || l.Key >= api.R || l.Delay < 0 || l.Delay > mostDelay {
		return false
	}
	return leavesMayBe(l) && hideMayBe(l)
}

func leavesMayBe(l api.Log) bool {
	there := make(map[string]bool)
	for _, leaf := range slices.Concat(l.L, l.Wait) {
		if !isBody(leaf.Body) || !isNumber(leaf.At) || there[string(leaf.Body)] {
			return false
		}
		there[string(leaf.Body)] = true
	}
	return true
}

func hideMayBe(l api.Log) bool {
	least := 0
	for _, place := range l.Hide {
		if place < least || place >= len(l.L) {
			return false
		}
		least = place + 1
	}
	return true
}

func mayShow(l api.Log, view int) api.Errno {
	if e := Check(l); e != api.OK {
		return e
	}
	if view != firstView && view != secondView {
		return api.ErrLog
	}
	return api.OK
}

// find is the leaf that a log has of a body, whether it waits or not.
func find(l api.Log, body []byte) (api.Leaf, bool) {
	isIt := func(leaf api.Leaf) bool { return bytes.Equal(leaf.Body, body) }
	for _, some := range [][]api.Leaf{l.L, l.Wait} {
		if at := slices.IndexFunc(some, isIt); at >= 0 {
			return some[at], true
		}
	}
	return api.Leaf{}, false
}

// leaves are the first ones of a view.
func leaves(l api.Log, view, size int) []api.Sum {
	sums := make([]api.Sum, 0, size)
	for place, leaf := range l.L[:size] {
		body := leaf.Body
		if view == secondView && slices.Contains(l.Hide, place) {
			body = slices.Concat([]byte{otherwise}, body)
		}
		sums = append(sums, merkle.Leaf(body))
	}
	return sums
}

func ofPromise(p api.Promise) []byte {
	return signed("promise", number(p.Log), number(p.At), hash.Bytes(p.Leaf))
}

func ofHead(h api.Head) []byte {
	return signed("head", number(h.Log), number(h.Size), hash.Bytes(h.Root), number(h.At))
}

// signed is what is signed: each kind has a beginning of its own, so that no signature serves for another kind.
func signed(kind string, parts ...[]byte) []byte {
	b := []byte(kind)
	for _, part := range parts {
		b = append(b, part...)
	}
	return b
}

func number(n int) []byte {
	b := make([]byte, 0, numberBytes)
	for k := range numberBytes {
		b = append(b, byte(n>>(8*(numberBytes-1-k))))
	}
	return b
}

// copyOf is a log of its own, whose lists whoever handed it in has not.
func copyOf(l api.Log) api.Log {
	l.L, l.Wait, l.Hide = leavesOf(l.L), leavesOf(l.Wait), slices.Clone(l.Hide)
	return l
}

func leavesOf(l []api.Leaf) []api.Leaf {
	l = slices.Clone(l)
	for at, leaf := range l {
		l[at].Body = bytes.Clone(leaf.Body)
	}
	return l
}
