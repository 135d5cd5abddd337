package console

import (
	"slices"
	"strconv"
	"strings"

	"greatseal/api"
)

// mostDigits of a number are as many as all ints have room for.
const mostDigits = 18

// reader is a line's words that were not read yet.
type reader struct {
	words []string
}

// unread is what somebody gives up with that can't be read.
type unread struct{}

// gaveUp tells whether somebody gave up: a fault of the program's own is nobody's giving up.
func gaveUp(thrown any) bool {
	if thrown == nil {
		return false
	}
	if _, is := thrown.(unread); !is {
		panic(thrown)
	}
	return true
}

func wordsOf(s string) []string {
	return slices.DeleteFunc(strings.Split(s, " "), func(word string) bool { return word == "" })
}

// read is the doing that a line's words make.
func read(words []string) api.Do {
	line := &reader{words: words}
	act, known := acts(line)[line.word()]
	if !known {
		panic(unread{})
	}
	d := act()
	if len(line.words) > 0 {
		panic(unread{})
	}
	return d
}

// acts are what lines may begin with, each with what the words behind it make.
func acts(line *reader) map[string]func() api.Do {
	// Those of one form.
	whoNumber := func(kind int) func() api.Do {
		return func() api.Do { return api.Do{Kind: kind, Who: line.word(), N: line.number()} }
	}
	whoName := func(kind int) func() api.Do {
		return func() api.Do { return api.Do{Kind: kind, Who: line.word(), Name: line.word()} }
	}
	whoRec := func(kind int) func() api.Do {
		return func() api.Do { return api.Do{Kind: kind, Who: line.word(), Rec: line.rec()} }
	}
	who := func(kind int) func() api.Do {
		return func() api.Do { return api.Do{Kind: kind, Who: line.word()} }
	}
	number := func(kind int) func() api.Do {
		return func() api.Do { return api.Do{Kind: kind, N: line.number()} }
	}
	bend := func(n int) func() api.Do {
		return func() api.Do {
			return api.Do{Kind: api.BendDo, Bend: api.Bend{Seen: line.number(), From: line.number(), To: line.number()}, N: n}
		}
	}
	return map[string]func() api.Do{
		"own":  whoName(api.OwnDo),
		"put":  whoRec(api.PutDo),
		"drop": whoRec(api.DropDo),
		"bend": bend(1),
		"mend": bend(0),
		"fake": func() api.Do { return api.Do{Kind: api.FakeDo, Rec: line.rec()} },
		"join": who(api.JoinDo),
		"order": func() api.Do {
			return api.Do{Kind: api.OrderDo, Who: line.word(), Names: line.names(), Key: line.key(), N: line.number()}
		},
		"token":  whoNumber(api.TokenDo),
		"look":   whoNumber(api.LookDo),
		"issue":  whoNumber(api.IssueDo),
		"revoke": whoNumber(api.RevokeDo),
		"bad":    number(api.BadDo),
		"crash":  func() api.Do { return api.Do{Kind: api.CrashDo, N: line.number(), Key: line.key()} },
		"back":   number(api.BackDo),
		"split":  number(api.SplitDo),
		"merge":  number(api.MergeDo),
		"tick":   number(api.TickDo),
		"fetch":  whoNumber(api.FetchDo),
		"day":    who(api.DayDo),
		"visit": func() api.Do {
			return api.Do{Kind: api.VisitDo, Who: line.word(), Name: line.word(), N: line.number()}
		},
		"talk":  whoName(api.TalkDo),
		"watch": number(api.WatchDo),
		"rogue": func() api.Do { return api.Do{Kind: api.RogueDo, Names: line.names(), Key: line.key()} },
	}
}

func (r *reader) word() string {
	if len(r.words) == 0 {
		panic(unread{})
	}
	word := r.words[0]
	r.words = r.words[1:]
	return word
}

// mark is a word that has to be that one.
func (r *reader) mark(s string) {
	if r.word() != s {
		panic(unread{})
	}
}

func (r *reader) number() int {
	s := r.word()
	if len(s) > mostDigits || s[0] == '0' && len(s) > 1 || strings.Trim(s, "0123456789") != "" {
		panic(unread{})
	}
	// Of so many digits there is always an int.
	n, _ := strconv.Atoi(s)
	return n
}

func (r *reader) key() uint64 { return uint64(r.number()) }

func (r *reader) names() []string {
	l := strings.Split(r.word(), ",")
	for _, s := range l {
		if s == "" {
			panic(unread{})
		}
	}
	return l
}

func (r *reader) rec() api.Rec {
	return api.Rec{Name: r.word(), Kind: r.kind(), Value: r.word(), Life: r.number()}
}

func (r *reader) kind() int {
	kinds := map[string]int{"text": api.TextK, "caa": api.CaaK, "ns": api.NsK, "alias": api.AliasK, "host": api.HostK}
	kind, known := kinds[r.word()]
	if !known {
		panic(unread{})
	}
	return kind
}
