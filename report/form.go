package report

import (
	"slices"

	"greatseal/api"
)

func isNumber(n int) bool { return n >= 0 && n <= api.MaxTime }

func isSum(s api.Sum) bool { return s[0] < api.P && s[1] < api.P }

func isSig(s api.Sig) bool { return s.E < api.R && s.S < api.R }

func isHead(h api.Head) bool {
	return isNumber(h.Log) && isNumber(h.Size) && isNumber(h.At) && isSum(h.Root) && isSig(h.Sig)
}

func isPromise(p api.Promise) bool {
	return isNumber(p.Log) && isNumber(p.At) && isSum(p.Leaf) && isSig(p.Sig)
}

func isShare(s api.Share) bool { return isNumber(s.Id) && s.X < api.Q }

// headsOf is how many heads a report of a kind has: two show a fork, one shows what a log has not.
func headsOf(kind int) int {
	switch kind {
	case api.ForkR:
		return 2
	case api.BrokeR:
		return 1
	}
	return 0
}

func hasForm(r api.Report) bool {
	if !isNumber(r.Party) || len(r.Heads) != headsOf(r.Kind) || !areAll(r.Heads, isHead) {
		return false
	}
	switch r.Kind {
	case api.ForkR:
		return hasNoPromise(r) && hasNoPart(r)
	case api.BrokeR:
		return isPromise(r.Promise) && len(r.Leaves) <= api.MaxLeaves && areAll(r.Leaves, isSum) && hasNoPart(r)
	case api.RogueR:
		return hasNoPromise(r) && len(r.Body) <= api.MaxBody && len(r.Commits) <= api.MaxCrew && areAll(r.Commits, isShare) && isShare(r.Part)
	}
	return false
}

// hasNoPromise tells whether all is zero that tells of a promise.
func hasNoPromise(r api.Report) bool { return r.Promise == api.Promise{} && len(r.Leaves) == 0 }

// hasNoPart tells whether all is zero that tells of a signer's part.
func hasNoPart(r api.Report) bool {
	return len(r.Body) == 0 && len(r.Commits) == 0 && r.Part == api.Share{}
}

func areAll[T any](l []T, is func(x T) bool) bool {
	return !slices.ContainsFunc(l, func(x T) bool { return !is(x) })
}
