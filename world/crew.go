package world

import (
	"slices"

	"greatseal/api"
	"greatseal/cert"
	"greatseal/cyclic"
	"greatseal/issue"
	"greatseal/quorum"
	"greatseal/report"
	"greatseal/signer"
)

const (
	// A crash keeps fewer bytes than this of what is not safe.
	keepsBelow = 64

	rogueLife = 10
)

func (w *work) bad() {
	w.turnSigner(signer.Corrupt)
	w.happened(api.Event{Kind: api.BadE, N: w.do.N})
}

func (w *work) crash() {
	w.turnSigner(func(s api.Signer) (api.Signer, api.Errno) { return signer.Crash(s, int(w.do.Key%keepsBelow)) })
}

func (w *work) back() { w.turnSigner(signer.Back) }

func (w *work) turnSigner(turn func(s api.Signer) (api.Signer, api.Errno)) {
	need(w.do.N >= 1 && w.do.N <= w.Crew.N, api.ErrArg)
	at := w.do.N - 1
	w.Signers = turned(w.Signers, at, got(turn(w.Signers[at])))
}

func (w *work) rogue() {
	need(slices.ContainsFunc(w.Signers, isRogue), api.ErrNone)
	wish := api.Wish{Names: w.do.Names, Key: w.do.Key, Life: rogueLife}
	body := got(cert.Body(got(issue.Draft(wish, len(w.Certs)+1, w.Now, authority))))
	session := w.Session + 1
	taking := w.taking()
	var commits []api.Share
	for at, s := range w.Signers {
		switch {
		case !taking[at]:
		case isRogue(s):
			commits = append(commits, got(quorum.Commit(s.Share, session, body)))
		default:
			// Nobody asks an honest one: any commitment is as good as its own.
			commits = append(commits, api.Share{Id: s.Share.Id, X: cyclic.Base(uint64(s.Share.Id))})
		}
	}
	for at, s := range w.Signers {
		if !taking[at] || !isRogue(s) {
			continue
		}
		if x, part, e := signer.Part(w.Crew, s, session, body, commits); e == api.OK {
			w.Signers = turned(w.Signers, at, x)
			w.reported(report.Rogue(body, commits, part))
		}
	}
	w.Session = session
	w.told.N = len(w.Reports)
}

// taking tells of each signer whether it is one of those that make a signature together: the rogues, as many as are wanted, and if they are too few, others.
func (w *work) taking() []bool {
	taking, many := make([]bool, len(w.Signers)), 0
	for _, rogues := range []bool{true, false} {
		for at, s := range w.Signers {
			if isRogue(s) == rogues && many < w.Crew.T {
				taking[at] = true
				many++
			}
		}
	}
	return taking
}

func isRogue(s api.Signer) bool { return s.Bad && s.Up }
