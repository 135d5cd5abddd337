package rule

import (
	"slices"
	"strconv"
	"strings"

	"greatseal/api"
)

const (
	allowWord  = "allow"
	refuseWord = "refuse"
	keyWord    = "key"
	lifeWord   = "life"
	mostWord   = "most"
	perWord    = "per"

	opens     = "{"
	closes    = "}"
	comma     = ","
	semicolon = ";"

	blanks    = " \n"
	comment   = '#'
	endOfLine = "\n"
	// What a word has beside letters and digits.
	inWords = "*._-"
)

// fault is with what a reader gives up, and where.
type fault struct {
	at int
	e  api.Errno
}

// reader reads a text token by token: the next one begins at at, and is empty at the end of the text.
type reader struct {
	text  string
	at    int
	token string
}

func readRules(text string) []api.Rule {
	r := &reader{text: text}
	r.goTo(0)
	var l []api.Rule
	for r.token != "" {
		if len(l) == api.MaxRules && isKind(r.token) {
			panic(fault{at: r.at, e: api.ErrBound})
		}
		l = append(l, r.rule(l))
	}
	return l
}

func isKind(token string) bool { return token == allowWord || token == refuseWord }

// goTo finds the first token from a place on.
func (r *reader) goTo(at int) {
	rest := strings.TrimLeft(r.text[at:], blanks)
	for rest != "" && rest[0] == comment {
		_, behind, _ := strings.Cut(rest, endOfLine)
		rest = strings.TrimLeft(behind, blanks)
	}
	r.at = len(r.text) - len(rest)
	r.token = rest[:lengthOf(rest)]
}

// lengthOf is how many bytes the token has with which a text begins: what is no word is a byte.
func lengthOf(text string) int {
	size := 0
	for size < len(text) && (isLetterOrDigit(text[size]) || strings.IndexByte(inWords, text[size]) >= 0) {
		size++
	}
	return max(size, min(1, len(text)))
}

// take goes on behind a token that fits, and gives up if it does not; nobody who asks lets the empty one at the end fit.
func (r *reader) take(fits func(token string) bool) string {
	token := r.token
	if !fits(token) {
		panic(fault{at: r.at, e: api.ErrForm})
	}
	r.goTo(r.at + len(token))
	return token
}

func (r *reader) want(word string) {
	r.take(func(token string) bool { return token == word })
}

// clause is a word, what read reads, and a semicolon.
func (r *reader) clause(word string, read func()) {
	r.want(word)
	read()
	r.want(semicolon)
}

// mayHave is a clause, if its word stands there.
func (r *reader) mayHave(word string, read func()) {
	if r.token == word {
		r.clause(word, read)
	}
}

func (r *reader) rule(ahead []api.Rule) api.Rule {
	var x api.Rule
	x.Allow = r.take(isKind) == allowWord
	x.Name = r.take(func(token string) bool {
		return isName(token) && !slices.ContainsFunc(ahead, func(other api.Rule) bool { return other.Name == token })
	})
	r.clause(opens, func() { x.Pats = r.pats() })
	if x.Allow {
		r.mayHave(keyWord, func() { x.KeyMin = r.number(api.Q) })
		r.clause(lifeWord, func() { x.LifeMax = int(r.number(mostLife)) })
		r.mayHave(mostWord, func() {
			x.Most = int(r.number(mostMost))
			r.want(perWord)
			x.Window = int(r.number(api.MaxTime))
		})
	}
	r.want(closes)
	return x
}

func (r *reader) pats() []string {
	var l []string
	for {
		l = append(l, r.take(func(token string) bool { return len(l) < mostPats && mayJoin(l, token) }))
		if r.token != comma {
			return l
		}
		r.want(comma)
	}
}

func (r *reader) number(most uint64) uint64 {
	told := uint64(0)
	r.take(func(token string) bool {
		n, wrong := strconv.ParseUint(token, 10, 64)
		told = n
		return wrong == nil && token[0] != '0' && n <= most
	})
	return told
}
