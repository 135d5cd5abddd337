package quorum_test

import (
	"encoding/binary"
	"math"
	"math/big"
	"slices"
	"testing"

	"greatseal/api"
	"greatseal/cyclic"
	"greatseal/hash"
	"greatseal/quorum"
	"greatseal/share"
	"greatseal/sign"
)

const (
	q = uint64(api.Q)
	r = uint64(api.R)
)

// text is bytes that are all unlike their neighbours.
func text(length int) []byte {
	b := make([]byte, length)
	for k := range b {
		b[k] = byte(k*37 + length)
	}
	return b
}

func seeds() [][]byte { return [][]byte{nil, {0}, []byte("seed"), text(1000)} }

func messages() [][]byte { return [][]byte{nil, {0}, []byte("message"), text(1000)} }

// sessions are those at both ends, and some between.
func sessions() []int { return []int{0, 1, 258, 1 << 32, api.MaxTime - 1, api.MaxTime} }

func noSessions() []int {
	return []int{math.MinInt, -api.MaxTime, -1, api.MaxTime + 1, 1 << 41, math.MaxInt}
}

// noExponents are R at least.
func noExponents() []uint64 {
	return []uint64{r, r + 1, 2*r - 1, 2 * r, q, 1 << 61, 1 << 63, math.MaxUint64 - 1, math.MaxUint64}
}

// notOfTheGroup are no squares, 0, or Q at least.
func notOfTheGroup() []uint64 {
	return []uint64{0, q - 1, q - 4, q - 16, q, q + 1, q + 4, 2*q + 4, 1 << 63, math.MaxUint64}
}

// noIds are no signer's, however great the crew is.
func noIds() []int {
	return []int{math.MinInt, -1, 0, 8, 9, 256 + 1, api.R + 1, math.MaxInt}
}

func whole(n uint64) *big.Int { return new(big.Int).SetUint64(n) }

func big8(n uint64) []byte { return binary.BigEndian.AppendUint64(nil, n) }

func num(s api.Sum, below uint64) uint64 {
	n := new(big.Int).Lsh(whole(s[0]), 61)
	n.Add(n, whole(s[1]))
	return n.Mod(n, whole(below)).Uint64()
}

func power(a, n uint64) uint64 { return new(big.Int).Exp(whole(a), whole(n), whole(q)).Uint64() }

// nonceOf is the chapter's nonce, of whole numbers.
func nonceOf(s api.Share, session int, msg []byte) uint64 {
	return 1 + num(hash.Tagged("commit", big8(s.X), big8(uint64(s.Id)), big8(uint64(session)), msg), r-1)
}

// challengeOf is the chapter's challenge, of whole numbers.
func challengeOf(c api.Crew, msg []byte, commits []api.Share) uint64 {
	product := big.NewInt(1)
	for _, commit := range commits {
		product.Mul(product, whole(commit.X))
	}
	return sign.Challenge(product.Mod(product, whole(q)).Uint64(), c.Key, msg)
}

// answerOf is a nonce, and the challenge times the weight times a share, of whole numbers.
func answerOf(nonce uint64, c api.Crew, s api.Share, msg []byte, commits []api.Share) api.Share {
	weight, _ := share.Weight(idsOf(commits), s.Id)
	sum := new(big.Int).Mul(whole(challengeOf(c, msg, commits)), whole(weight))
	sum.Mul(sum, whole(s.X))
	sum.Add(sum, whole(nonce))
	return api.Share{Id: s.Id, X: sum.Mod(sum, whole(r)).Uint64()}
}

func idsOf(l []api.Share) []int {
	var ids []int
	for _, s := range l {
		ids = append(ids, s.Id)
	}
	return ids
}

func dealt(t *testing.T, seed []byte, of, n int) (api.Crew, []api.Share) {
	t.Helper()
	c, shares, e := quorum.Deal(seed, of, n)
	if e != api.OK {
		t.Fatalf("Deal(%v, %d, %d) tells %d", seed, of, n, e)
	}
	return c, shares
}

func committed(t *testing.T, shares []api.Share, session int, msg []byte) []api.Share {
	t.Helper()
	var l []api.Share
	for _, s := range shares {
		commit, e := quorum.Commit(s, session, msg)
		if e != api.OK {
			t.Fatalf("Commit(%v, %d, %v) tells %d", s, session, msg, e)
		}
		l = append(l, commit)
	}
	return l
}

func answered(t *testing.T, c api.Crew, shares []api.Share, session int, msg []byte, commits []api.Share) []api.Share {
	t.Helper()
	var l []api.Share
	for _, s := range shares {
		part, e := quorum.Part(c, s, session, msg, commits)
		if e != api.OK {
			t.Fatalf("Part(%v, %v, %d, %v, %v) tells %d", c, s, session, msg, commits, e)
		}
		l = append(l, part)
	}
	return l
}

func mayBe(t *testing.T, what string, want api.Errno, c api.Crew) {
	t.Helper()
	if e := quorum.Check(c); e != want {
		t.Errorf("%s: Check(%v) is %d, not %d", what, c, e, want)
	}
}

func notPart(t *testing.T, what string, want api.Errno, c api.Crew, s api.Share, session int, msg []byte, commits []api.Share) {
	t.Helper()
	if part, e := quorum.Part(c, s, session, msg, commits); part != (api.Share{}) || e != want {
		t.Errorf("%s: Part(%v, %v, %d, %v, %v) is %v, %d, not %d", what, c, s, session, msg, commits, part, e, want)
	}
}

func checked(t *testing.T, what string, want api.Errno, c api.Crew, msg []byte, commits []api.Share, part api.Share) {
	t.Helper()
	if e := quorum.CheckPart(c, msg, commits, part); e != want {
		t.Errorf("%s: CheckPart(%v, %v, %v, %v) is %d, not %d", what, c, msg, commits, part, e, want)
	}
}

func notCombined(t *testing.T, what string, want api.Errno, c api.Crew, msg []byte, commits, parts []api.Share) {
	t.Helper()
	if sig, e := quorum.Combine(c, msg, commits, parts); sig != (api.Sig{}) || e != want {
		t.Errorf("%s: Combine(%v, %v, %v, %v) is %v, %d, not %d", what, c, msg, commits, parts, sig, e, want)
	}
}

// some are all choices of how many of l, in l's order.
func some(l []api.Share, many int) [][]api.Share {
	var all [][]api.Share
	for set := range 1 << len(l) {
		var chosen []api.Share
		for k, s := range l {
			if set>>k&1 == 1 {
				chosen = append(chosen, s)
			}
		}
		if len(chosen) == many {
			all = append(all, chosen)
		}
	}
	return all
}

// with is l with another share in place of one.
func with(l []api.Share, k int, s api.Share) []api.Share {
	other := slices.Clone(l)
	other[k] = s
	return other
}

// changed is a crew of its own, with something that is otherwise.
func changed(c api.Crew, change func(c *api.Crew)) api.Crew {
	c.Parts = slices.Clone(c.Parts)
	change(&c)
	return c
}

// shape is how many of how many.
type shape struct{ of, n int }

func shapes() []shape {
	var l []shape
	for n := 1; n <= api.MaxCrew; n++ {
		for of := 1; of <= n; of++ {
			l = append(l, shape{of, n})
		}
	}
	return l
}

// Numbers that were worked out apart from the program.
type example struct {
	seed    []byte
	of, n   int
	session int
	msg     []byte
	who     []int
	key     uint64
	public  []uint64
	shares  []uint64
	commits []uint64
	parts   []uint64
	sig     api.Sig
}

func examples() []example {
	return []example{
		{
			seed: []byte("seed"), of: 2, n: 3, session: 0, msg: []byte("message"), who: []int{1, 3},
			key:     1746141898101279046,
			public:  []uint64{1574440204127694117, 575549164814627894, 1254593304054356743},
			shares:  []uint64{494672939937058030, 647508258033346281, 800343576129634532},
			commits: []uint64{1502229890138755868, 750767536101787116},
			parts:   []uint64{389370601016959602, 409081319564215508},
			sig:     api.Sig{E: 900041669482201480, S: 798451920581175110},
		},
		{
			seed: []byte("seed"), of: 2, n: 3, session: api.MaxTime, msg: nil, who: []int{2, 3},
			key:     1746141898101279046,
			public:  []uint64{1574440204127694117, 575549164814627894, 1254593304054356743},
			shares:  []uint64{494672939937058030, 647508258033346281, 800343576129634532},
			commits: []uint64{1785651003169223289, 1927666373384130721},
			parts:   []uint64{731541299726849948, 982607436551041031},
			sig:     api.Sig{E: 225164930755976381, S: 561227231671045190},
		},
		{
			seed: nil, of: 1, n: 1, session: 7, msg: []byte("m"), who: []int{1},
			key:     163028828305854449,
			public:  []uint64{163028828305854449},
			shares:  []uint64{992822011646943274},
			commits: []uint64{1290897146630901272},
			parts:   []uint64{349040603484292001},
			sig:     api.Sig{E: 912397554144507553, S: 349040603484292001},
		},
		{
			seed: []byte{0}, of: 7, n: 7, session: 12345, msg: text(1000), who: []int{1, 2, 3, 4, 5, 6, 7},
			key:     332320259965400997,
			public:  []uint64{1050792079145394569, 757987829028640468, 1976817484529855083, 689235528133983774, 232082075870654294, 161354816937721933, 1438683181926778365},
			shares:  []uint64{410863827892251851, 358325954954650667, 611559999779904867, 925251205806047612, 822924952297774536, 999924999149592538, 490785842236854969},
			commits: []uint64{1393856240262815907, 155639843973494387, 458932589746424938, 681810466177157501, 349713510708760173, 1728199568400055625, 1991036238018431727},
			parts:   []uint64{999316178545264670, 865098707599995043, 609004828158380532, 980142670634940097, 579836710987796309, 46664051707708917, 275656318360478678},
			sig:     api.Sig{E: 806065630716205385, S: 896954952174026879},
		},
		{
			seed: []byte("seed"), of: 3, n: 7, session: 1, msg: []byte("message"), who: []int{1, 2, 4, 5, 7},
			key:     1746141898101279046,
			public:  []uint64{1116974401541424888, 889356564570112897, 1152550076946352466, 538811973375485897, 2191192729707384313, 1900299182915519621, 1808415840423669712},
			shares:  []uint64{856246931435550767, 940882719420471440, 595744985795531798, 973755235167577630, 921991962929763147, 440455169082088349, 682066358231399025},
			commits: []uint64{491116476314182496, 955569773113393029, 1432205343382101661, 2200111898642471043, 714592224937235007},
			parts:   []uint64{1027025551441600866, 813957251648998372, 650769172899775249, 629864526569548928, 808151686430029944},
			sig:     api.Sig{E: 514436600506967799, S: 471003675169415992},
		},
	}
}

func sharesOf(ids []int, xs []uint64) []api.Share {
	var l []api.Share
	for k, x := range xs {
		l = append(l, api.Share{Id: ids[k], X: x})
	}
	return l
}

func firstIds(n int) []int { return []int{1, 2, 3, 4, 5, 6, 7}[:n] }

func chosen(shares []api.Share, who []int) []api.Share {
	var l []api.Share
	for _, id := range who {
		l = append(l, shares[id-1])
	}
	return l
}

// P6.1

func TestCrewsOfSeeds(t *testing.T) {
	for _, x := range examples() {
		c, shares := dealt(t, x.seed, x.of, x.n)
		if c.T != x.of || c.N != x.n || c.Key != x.key || !slices.Equal(c.Parts, sharesOf(firstIds(x.n), x.public)) {
			t.Errorf("Deal(%v, %d, %d) is the crew %v", x.seed, x.of, x.n, c)
		}
		if !slices.Equal(shares, sharesOf(firstIds(x.n), x.shares)) {
			t.Errorf("Deal(%v, %d, %d) has the shares %v", x.seed, x.of, x.n, shares)
		}
	}
}

func TestCrewsAreWhatTheChapterSays(t *testing.T) {
	for _, seed := range seeds() {
		for _, x := range shapes() {
			c, shares := dealt(t, seed, x.of, x.n)
			secret := sign.Secret(seed)
			want, _ := share.Split(secret, x.of, x.n, seed)
			if !slices.Equal(shares, want) {
				t.Errorf("Deal(%v, %d, %d) has the shares %v, not %v", seed, x.of, x.n, shares, want)
			}
			if c.T != x.of || c.N != x.n || c.Key != power(api.G, secret) || len(c.Parts) != x.n {
				t.Errorf("Deal(%v, %d, %d) is the crew %v", seed, x.of, x.n, c)
			}
			for k, part := range c.Parts {
				if part != (api.Share{Id: k + 1, X: power(api.G, want[k].X)}) {
					t.Errorf("Deal(%v, %d, %d) has the part %v", seed, x.of, x.n, part)
				}
			}
			mayBe(t, "dealt", api.OK, c)
		}
	}
}

func TestWhatIsNotDealt(t *testing.T) {
	refused := func(of, n int) {
		t.Helper()
		c, shares, e := quorum.Deal([]byte("seed"), of, n)
		if c.T != 0 || c.N != 0 || c.Key != 0 || len(c.Parts) != 0 || len(shares) != 0 || e != api.ErrArg {
			t.Errorf("Deal of %d of %d is %v, %v, %d", of, n, c, shares, e)
		}
	}
	for n := 1; n <= 7; n++ {
		for _, of := range []int{math.MinInt, -1, 0, n + 1, 8, math.MaxInt} {
			refused(of, n)
		}
	}
	for _, n := range []int{math.MinInt, -1, 0, 8, 9, 257, math.MaxInt} {
		for _, of := range []int{math.MinInt, -1, 0, 1, 7, 8, n} {
			refused(of, n)
		}
	}
}

func TestCrewsOfAnotherForm(t *testing.T) {
	mayBe(t, "none", api.ErrArg, api.Crew{})
	for _, x := range shapes() {
		good, _ := dealt(t, []byte("seed"), x.of, x.n)
		refused := func(what string, change func(c *api.Crew)) {
			t.Helper()
			mayBe(t, what, api.ErrArg, changed(good, change))
		}
		for _, of := range []int{math.MinInt, -1, 0, x.n + 1, 8, math.MaxInt} {
			refused("T", func(c *api.Crew) { c.T = of })
		}
		for _, n := range []int{math.MinInt, -1, 0, x.n - 1, x.n + 1, 8, math.MaxInt} {
			refused("N", func(c *api.Crew) { c.N = n })
		}
		for _, key := range notOfTheGroup() {
			refused("Key", func(c *api.Crew) { c.Key = key })
		}
		refused("no Parts", func(c *api.Crew) { c.Parts = nil })
		refused("the first one of Parts is missing", func(c *api.Crew) { c.Parts = c.Parts[1:] })
		refused("the last one of Parts is missing", func(c *api.Crew) { c.Parts = c.Parts[:x.n-1] })
		refused("one more of Parts", func(c *api.Crew) { c.Parts = append(c.Parts, api.Share{Id: x.n + 1, X: 4}) })
		refused("one of Parts twice", func(c *api.Crew) { c.Parts = append(c.Parts, c.Parts[x.n-1]) })
		for k := range good.Parts {
			for _, id := range append(noIds(), k, k+2) {
				refused("an Id of Parts", func(c *api.Crew) { c.Parts[k].Id = id })
			}
			for _, n := range notOfTheGroup() {
				refused("an X of Parts", func(c *api.Crew) { c.Parts[k].X = n })
			}
		}
		if x.n > 1 {
			refused("the other way round", func(c *api.Crew) { slices.Reverse(c.Parts) })
			refused("two of Parts", func(c *api.Crew) { c.Parts[0], c.Parts[x.n-1] = c.Parts[x.n-1], c.Parts[0] })
		}
	}
}

// A crew of eight is none, although all of it fits together.
func TestCrewsAreOfSevenAtMost(t *testing.T) {
	eight := api.Crew{T: 1, N: 8, Key: 16}
	for id := 1; id <= 8; id++ {
		eight.Parts = append(eight.Parts, api.Share{Id: id, X: 16})
	}
	mayBe(t, "eight", api.ErrArg, eight)
	seven := api.Crew{T: 1, N: 7, Key: 16, Parts: eight.Parts[:7]}
	mayBe(t, "seven", api.OK, seven)
	mayBe(t, "7 of seven, of one number", api.OK, api.Crew{T: 7, N: 7, Key: 16, Parts: eight.Parts[:7]})
}

func TestCrewsWhoseKeyIsNotTheirs(t *testing.T) {
	for _, x := range shapes() {
		good, _ := dealt(t, []byte("seed"), x.of, x.n)
		other, _ := dealt(t, []byte("another seed"), x.of, x.n)
		for _, key := range []uint64{1, 4, cyclic.Mul(good.Key, 4), other.Key, cyclic.Mul(good.Key, good.Key)} {
			mayBe(t, "another key", api.ErrPart, changed(good, func(c *api.Crew) { c.Key = key }))
		}
		mayBe(t, "another one's key", api.ErrPart, changed(other, func(c *api.Crew) { c.Key = good.Key }))
		if x.of > 1 {
			mayBe(t, "the first one's key", api.ErrPart, changed(good, func(c *api.Crew) { c.Key = c.Parts[0].X }))
		}
	}
}

// The key is that of the first T of Parts; who is behind them has to fit all the same.
func TestCrewsWhosePartsAreNotOfOnePolynomial(t *testing.T) {
	for _, x := range shapes() {
		good, _ := dealt(t, []byte("seed"), x.of, x.n)
		for k := range good.Parts {
			for _, n := range []uint64{1, 4, cyclic.Mul(good.Parts[k].X, 4)} {
				mayBe(t, "another one in Parts", api.ErrPart, changed(good, func(c *api.Crew) { c.Parts[k].X = n }))
			}
		}
		for of := 1; of <= x.n; of++ {
			want := api.OK
			if of < x.of {
				want = api.ErrPart
			}
			mayBe(t, "another T", want, changed(good, func(c *api.Crew) { c.T = of }))
		}
	}
}

// P6.2

func TestCommitments(t *testing.T) {
	for _, x := range []struct {
		share   api.Share
		session int
		msg     []byte
		want    uint64
	}{
		{api.Share{Id: 1, X: 0}, 0, nil, 372767032376493137},
		{api.Share{Id: 1, X: 0}, 0, []byte{}, 372767032376493137},
		{api.Share{Id: 7, X: r - 1}, api.MaxTime, []byte("message"), 1866532507833748537},
		{api.Share{Id: 1, X: r - 1}, 1, []byte{0}, 436978733885210789},
		{api.Share{Id: 3, X: 123456789}, 258, []byte("message"), 940042382905209378},
		{api.Share{Id: 7, X: 0}, api.MaxTime - 1, text(64), 1952929100351624388},
	} {
		if commit, e := quorum.Commit(x.share, x.session, x.msg); commit != (api.Share{Id: x.share.Id, X: x.want}) || e != api.OK {
			t.Errorf("Commit(%v, %d, %v) is %v, %d, not %d", x.share, x.session, x.msg, commit, e, x.want)
		}
	}
}

func TestCommitmentsAreWhatTheChapterSays(t *testing.T) {
	seen := map[uint64]bool{}
	for id := 1; id <= 7; id++ {
		for _, n := range []uint64{0, 1, 1 << 32, r - 2, r - 1} {
			for _, session := range sessions() {
				for _, msg := range messages() {
					s := api.Share{Id: id, X: n}
					commit, e := quorum.Commit(s, session, msg)
					if want := power(api.G, nonceOf(s, session, msg)); commit != (api.Share{Id: id, X: want}) || e != api.OK {
						t.Errorf("Commit(%v, %d, %v) is %v, %d, not %d", s, session, msg, commit, e, want)
					}
					if seen[commit.X] {
						t.Errorf("Commit(%v, %d, %v) is that of others", s, session, msg)
					}
					seen[commit.X] = true
				}
			}
		}
	}
}

func TestWhatIsNotCommittedTo(t *testing.T) {
	refused := func(s api.Share, session int) {
		t.Helper()
		for _, msg := range messages() {
			if commit, e := quorum.Commit(s, session, msg); commit != (api.Share{}) || e != api.ErrArg {
				t.Errorf("Commit(%v, %d, %v) is %v, %d", s, session, msg, commit, e)
			}
		}
	}
	for _, id := range noIds() {
		refused(api.Share{Id: id, X: 5}, 0)
	}
	for _, n := range noExponents() {
		refused(api.Share{Id: 1, X: n}, 0)
		refused(api.Share{Id: 7, X: n}, api.MaxTime)
	}
	for _, session := range noSessions() {
		refused(api.Share{Id: 1, X: 0}, session)
		refused(api.Share{Id: 7, X: r - 1}, session)
	}
}

// P6.3

func TestParts(t *testing.T) {
	for _, x := range examples() {
		c, shares := dealt(t, x.seed, x.of, x.n)
		who := chosen(shares, x.who)
		commits := committed(t, who, x.session, x.msg)
		if want := sharesOf(x.who, x.commits); !slices.Equal(commits, want) {
			t.Errorf("commitments of %v are %v, not %v", x.who, commits, want)
		}
		if parts, want := answered(t, c, who, x.session, x.msg, commits), sharesOf(x.who, x.parts); !slices.Equal(parts, want) {
			t.Errorf("parts of %v are %v, not %v", x.who, parts, want)
		}
	}
}

func TestPartsAreWhatTheChapterSays(t *testing.T) {
	for k, x := range shapes() {
		c, shares := dealt(t, []byte("seed"), x.of, x.n)
		session, msg := sessions()[k%len(sessions())], messages()[k%len(messages())]
		for many := x.of; many <= x.n; many++ {
			for _, who := range some(shares, many) {
				commits := committed(t, who, session, msg)
				for _, s := range who {
					want := answerOf(nonceOf(s, session, msg), c, s, msg, commits)
					if part, e := quorum.Part(c, s, session, msg, commits); part != want || e != api.OK {
						t.Errorf("Part(%v, %v, %d, %v, %v) is %v, %d, not %v", c, s, session, msg, commits, part, e, want)
					}
				}
			}
		}
	}
}

// A share need not be the crew's: its part is told, and is not right.
func TestPartsOfSharesAtTheEnds(t *testing.T) {
	c, shares := dealt(t, []byte("seed"), 2, 3)
	msg := []byte("message")
	for _, n := range []uint64{0, 1, r - 1} {
		s := api.Share{Id: 3, X: n}
		who := []api.Share{shares[0], s}
		commits := committed(t, who, api.MaxTime, msg)
		part, e := quorum.Part(c, s, api.MaxTime, msg, commits)
		if want := answerOf(nonceOf(s, api.MaxTime, msg), c, s, msg, commits); part != want || e != api.OK {
			t.Errorf("a part of %v is %v, %d, not %v", s, part, e, want)
		}
		checked(t, "another share", api.ErrPart, c, msg, commits, part)
	}
}

// wrongCommits are lists of which none may be, of a crew of n, made of l, which may be, and has all signers.
func wrongCommits(l []api.Share) [][]api.Share {
	n := len(l)
	all := [][]api.Share{
		append(slices.Clone(l), l[n-1]),
		append([]api.Share{l[0]}, l...),
		append(slices.Clone(l), api.Share{Id: n + 1, X: 4}),
		append([]api.Share{{Id: 0, X: 4}}, l...),
		append([]api.Share{{Id: -1, X: 4}}, l...),
	}
	if n > 1 {
		back := slices.Clone(l)
		slices.Reverse(back)
		all = append(all, back, with(l, 0, l[1]), with(l, 1, l[0]), slices.Concat(l[1:], l[:1]))
	}
	for k := range l {
		for _, x := range notOfTheGroup() {
			all = append(all, with(l, k, api.Share{Id: k + 1, X: x}))
		}
		for _, id := range noIds() {
			all = append(all, with(l, k, api.Share{Id: id, X: l[k].X}))
		}
	}
	return all
}

func TestCommitmentsThatMayNotBe(t *testing.T) {
	msg := []byte("message")
	for _, x := range []shape{{1, 1}, {1, 3}, {2, 2}, {2, 3}, {3, 5}, {7, 7}} {
		c, shares := dealt(t, []byte("seed"), x.of, x.n)
		right := committed(t, shares, 0, msg)
		parts := answered(t, c, shares, 0, msg, right)
		for _, commits := range wrongCommits(right) {
			for k, s := range shares {
				notPart(t, "commitments", api.ErrArg, c, s, 0, msg, commits)
				checked(t, "commitments", api.ErrArg, c, msg, commits, parts[k])
			}
			notCombined(t, "commitments", api.ErrArg, c, msg, commits, parts)
		}
	}
}

func TestFewCommitmentsAreFew(t *testing.T) {
	msg := []byte("message")
	for _, x := range shapes() {
		c, shares := dealt(t, []byte("seed"), x.of, x.n)
		for many := range x.of {
			for _, who := range some(shares, many) {
				commits := committed(t, who, 0, msg)
				parts := slices.Clone(commits)
				for _, s := range shares {
					notPart(t, "few", api.ErrFew, c, s, 0, msg, commits)
					checked(t, "few", api.ErrFew, c, msg, commits, api.Share{Id: s.Id, X: 5})
				}
				notCombined(t, "few", api.ErrFew, c, msg, commits, parts)
				notCombined(t, "few, and no parts", api.ErrFew, c, msg, commits, nil)
			}
		}
	}
}

// Who has told another commitment, or none, has no part: it would sign with a nonce that nobody has seen.
func TestWhoHasNotCommittedHasNoPart(t *testing.T) {
	msg := []byte("message")
	c, shares := dealt(t, []byte("seed"), 2, 4)
	commits := committed(t, shares[:3], 7, msg)
	for k, s := range shares[:3] {
		notPart(t, "another session", api.ErrPart, c, s, 8, msg, commits)
		notPart(t, "another message", api.ErrPart, c, s, 7, msg[1:], commits)
		notPart(t, "another share", api.ErrPart, c, api.Share{Id: s.Id, X: s.X + 1}, 7, msg, commits)
		notPart(t, "another Id", api.ErrPart, c, api.Share{Id: s.Id%3 + 1, X: s.X}, 7, msg, commits)
		notPart(t, "another commitment", api.ErrPart, c, s, 7, msg, with(commits, k, api.Share{Id: s.Id, X: 4}))
		notPart(t, "none", api.ErrPart, c, s, 7, msg, slices.Delete(slices.Clone(commits), k, k+1))
	}
	notPart(t, "who is not asked", api.ErrPart, c, shares[3], 7, msg, commits)
	notPart(t, "who is not of the crew", api.ErrPart, c, api.Share{Id: 7, X: 5}, 7, msg, commits)
	// Its commitment stands there as another one's.
	own, _ := quorum.Commit(shares[0], 7, msg)
	notPart(t, "as another one's", api.ErrPart, c, shares[0], 7, msg, []api.Share{{Id: 2, X: own.X}, {Id: 3, X: commits[2].X}})
}

func TestWhoHasNoPart(t *testing.T) {
	msg := []byte("message")
	c, shares := dealt(t, []byte("seed"), 2, 3)
	commits := committed(t, shares, 7, msg)
	for k, s := range shares {
		for _, session := range noSessions() {
			notPart(t, "a session", api.ErrArg, c, s, session, msg, commits)
		}
		for _, id := range noIds() {
			notPart(t, "an Id", api.ErrArg, c, api.Share{Id: id, X: s.X}, 7, msg, commits)
		}
		for _, n := range append(noExponents(), s.X+r) {
			notPart(t, "an X", api.ErrArg, c, api.Share{Id: k + 1, X: n}, 7, msg, commits)
		}
	}
}

// Each fault is told ahead of those that stand behind it.
func TestWhichErrorOfAPartIsTold(t *testing.T) {
	msg := []byte("message")
	good, shares := dealt(t, []byte("seed"), 2, 3)
	commits := committed(t, shares, 7, msg)
	noForm := changed(good, func(c *api.Crew) { c.N = 8 })
	noKey := changed(good, func(c *api.Crew) { c.Key = 4 })
	both := changed(noKey, func(c *api.Crew) { c.T = 0 })
	noShare := api.Share{Id: 1, X: r}
	mayNotBe := []api.Share{{Id: 2, X: q - 1}}
	few := commits[1:2]
	mayBe(t, "form, and key", api.ErrArg, both)
	notPart(t, "form, and all", api.ErrArg, noForm, noShare, -1, msg, mayNotBe)
	notPart(t, "form, and few", api.ErrArg, noForm, shares[0], 7, msg, few)
	notPart(t, "key, and all", api.ErrPart, noKey, noShare, -1, msg, mayNotBe)
	notPart(t, "key, and a share", api.ErrPart, noKey, noShare, 7, msg, commits)
	notPart(t, "key, and a session", api.ErrPart, noKey, shares[0], -1, msg, commits)
	notPart(t, "key, and commitments", api.ErrPart, noKey, shares[0], 7, msg, mayNotBe)
	notPart(t, "key, and few", api.ErrPart, noKey, shares[0], 7, msg, few)
	notPart(t, "a share, and few", api.ErrArg, good, noShare, 7, msg, few)
	notPart(t, "a session, and few", api.ErrArg, good, shares[0], -1, msg, few)
	notPart(t, "a session, and another commitment", api.ErrArg, good, shares[0], -1, msg, commits)
	notPart(t, "commitments, and few", api.ErrArg, good, shares[0], 7, msg, mayNotBe)
	notPart(t, "commitments, and another session", api.ErrArg, good, shares[0], 8, msg, append(slices.Clone(commits), commits[2]))
	notPart(t, "few, and another session", api.ErrFew, good, shares[0], 8, msg, few)
}

// P6.4

func TestPartsThatAreRight(t *testing.T) {
	for _, x := range examples() {
		c, _ := dealt(t, x.seed, x.of, x.n)
		commits, parts := sharesOf(x.who, x.commits), sharesOf(x.who, x.parts)
		for k, part := range parts {
			checked(t, "as it is", api.OK, c, x.msg, commits, part)
			for _, more := range []uint64{1, 2, r / 2, r - 1} {
				other := api.Share{Id: part.Id, X: cyclic.AddR(part.X, more)}
				checked(t, "another number", api.ErrPart, c, x.msg, commits, other)
			}
			checked(t, "another message", api.ErrPart, c, append([]byte{1}, x.msg...), commits, part)
			other := with(commits, k, api.Share{Id: part.Id, X: cyclic.Mul(commits[k].X, 4)})
			checked(t, "another commitment", api.ErrPart, c, x.msg, other, part)
		}
	}
}

// Commitments may be whatever numbers of the group: it need not be Commit that told them.
func TestPartsAreWhatTheCommitmentsAskFor(t *testing.T) {
	msg := []byte("message")
	for _, x := range shapes() {
		c, shares := dealt(t, []byte("seed"), x.of, x.n)
		for _, nonces := range [][]uint64{{0, 0, 0, 0, 0, 0, 0}, {1, 1, 1, 1, 1, 1, 1}, {r - 1, 1, 2, 0, 5, r / 2, r - 2}} {
			var commits []api.Share
			for k, s := range shares {
				commits = append(commits, api.Share{Id: s.Id, X: power(api.G, nonces[k])})
			}
			for k, s := range shares {
				part := answerOf(nonces[k], c, s, msg, commits)
				checked(t, "of chosen nonces", api.OK, c, msg, commits, part)
				part.X = cyclic.AddR(part.X, 1)
				checked(t, "one more, of chosen nonces", api.ErrPart, c, msg, commits, part)
			}
		}
	}
}

// Of a crew whose shares are 0 a part is the nonce, so that it may be at the ends.
func TestPartsAtTheEnds(t *testing.T) {
	msg := []byte("message")
	zero := api.Crew{T: 1, N: 3, Key: 1, Parts: sharesOf(firstIds(3), []uint64{1, 1, 1})}
	for _, nonce := range []uint64{0, 1, r - 1} {
		commits := []api.Share{{Id: 2, X: power(api.G, nonce)}}
		part := api.Share{Id: 2, X: nonce}
		checked(t, "the nonce", api.OK, zero, msg, commits, part)
		checked(t, "R more", api.ErrArg, zero, msg, commits, api.Share{Id: 2, X: nonce + r})
		sig, e := quorum.Combine(zero, msg, commits, []api.Share{part})
		if want := (api.Sig{E: challengeOf(zero, msg, commits), S: nonce}); sig != want || e != api.OK {
			t.Errorf("the signature is %v, %d, not %v", sig, e, want)
		}
	}
}

func TestPartsThatMayNotBe(t *testing.T) {
	msg := []byte("message")
	c, shares := dealt(t, []byte("seed"), 2, 4)
	who := shares[:3]
	commits := committed(t, who, 7, msg)
	parts := answered(t, c, who, 7, msg, commits)
	for _, part := range parts {
		for _, id := range append(noIds(), 4, 5, 7) {
			checked(t, "an Id that is none of theirs", api.ErrArg, c, msg, commits, api.Share{Id: id, X: part.X})
		}
		for _, n := range append(noExponents(), part.X+r) {
			checked(t, "an X", api.ErrArg, c, msg, commits, api.Share{Id: part.Id, X: n})
		}
		checked(t, "another one's", api.ErrPart, c, msg, commits, api.Share{Id: part.Id%3 + 1, X: part.X})
	}
}

func TestWhichErrorOfCheckPartIsTold(t *testing.T) {
	msg := []byte("message")
	good, shares := dealt(t, []byte("seed"), 2, 3)
	commits := committed(t, shares, 7, msg)
	noForm := changed(good, func(c *api.Crew) { c.N = 8 })
	noKey := changed(good, func(c *api.Crew) { c.Key = 4 })
	noPart := api.Share{Id: 1, X: r}
	mayNotBe := []api.Share{{Id: 2, X: q - 1}}
	few := commits[1:2]
	checked(t, "form, and few", api.ErrArg, noForm, msg, few, noPart)
	checked(t, "key, and commitments", api.ErrPart, noKey, msg, mayNotBe, noPart)
	checked(t, "key, and few", api.ErrPart, noKey, msg, few, noPart)
	checked(t, "key, and a part", api.ErrPart, noKey, msg, commits, noPart)
	checked(t, "commitments, and few", api.ErrArg, good, msg, mayNotBe, noPart)
	checked(t, "few, and an X", api.ErrFew, good, msg, few, noPart)
	checked(t, "few, and an Id", api.ErrFew, good, msg, few, api.Share{Id: 9, X: 5})
}

// P6.5

func TestSignatures(t *testing.T) {
	for _, x := range examples() {
		c, _ := dealt(t, x.seed, x.of, x.n)
		sig, e := quorum.Combine(c, x.msg, sharesOf(x.who, x.commits), sharesOf(x.who, x.parts))
		if sig != x.sig || e != api.OK {
			t.Errorf("the signature of %v is %v, %d, not %v", x.who, sig, e, x.sig)
		}
	}
}

// The chapter's example.
func TestTwoOfThree(t *testing.T) {
	msg := []byte("what is to be signed")
	c, shares := dealt(t, []byte("a seed"), 2, 3)
	who := []api.Share{shares[0], shares[2]}
	commits := committed(t, who, 1, msg)
	parts := answered(t, c, who, 1, msg, commits)
	sig, e := quorum.Combine(c, msg, commits, parts)
	if e != api.OK || sign.Check(c.Key, msg, sig) != api.OK {
		t.Error("of 1 and 3:", sig, e)
	}
	notCombined(t, "one more in X", api.ErrPart, c, msg, commits, with(parts, 1, api.Share{Id: 3, X: cyclic.AddR(parts[1].X, 1)}))
	notCombined(t, "1 alone", api.ErrFew, c, msg, commits[:1], parts[:1])
}

func TestPartsOfOthersAreNotCombined(t *testing.T) {
	msg := []byte("message")
	c, shares := dealt(t, []byte("seed"), 2, 4)
	who := shares[:3]
	commits := committed(t, who, 7, msg)
	parts := answered(t, c, who, 7, msg, commits)
	refused := func(what string, l []api.Share) {
		t.Helper()
		notCombined(t, what, api.ErrArg, c, msg, commits, l)
	}
	refused("none", nil)
	refused("the last one is missing", parts[:2])
	refused("the first one is missing", parts[1:])
	refused("one more", append(slices.Clone(parts), api.Share{Id: 4, X: 5}))
	refused("one twice", append(slices.Clone(parts), parts[2]))
	refused("the other way round", []api.Share{parts[2], parts[1], parts[0]})
	refused("out of order", []api.Share{parts[1], parts[0], parts[2]})
	refused("one in another's place", with(parts, 1, parts[0]))
	for k, part := range parts {
		for _, id := range append(noIds(), 4) {
			refused("another Id", with(parts, k, api.Share{Id: id, X: part.X}))
		}
		for _, n := range append(noExponents(), part.X+r) {
			refused("an X", with(parts, k, api.Share{Id: part.Id, X: n}))
		}
	}
}

// The first part that has an error tells it, whatever those behind it have.
func TestWhichErrorOfCombineIsTold(t *testing.T) {
	msg := []byte("message")
	good, shares := dealt(t, []byte("seed"), 2, 3)
	commits := committed(t, shares, 7, msg)
	parts := answered(t, good, shares, 7, msg, commits)
	noForm := changed(good, func(c *api.Crew) { c.N = 8 })
	noKey := changed(good, func(c *api.Crew) { c.Key = 4 })
	mayNotBe := []api.Share{{Id: 2, X: q - 1}}
	few := commits[1:2]
	notCombined(t, "form, and few", api.ErrArg, noForm, msg, few, nil)
	notCombined(t, "key, and commitments", api.ErrPart, noKey, msg, mayNotBe, nil)
	notCombined(t, "key, and few", api.ErrPart, noKey, msg, few, parts)
	notCombined(t, "key, and parts", api.ErrPart, noKey, msg, commits, nil)
	notCombined(t, "commitments, and few", api.ErrArg, good, msg, mayNotBe, parts)
	notCombined(t, "few, and parts", api.ErrFew, good, msg, few, nil)
	wrong := func(k int) api.Share { return api.Share{Id: k + 1, X: cyclic.AddR(parts[k].X, 1)} }
	great := func(k int) api.Share { return api.Share{Id: k + 1, X: parts[k].X + r} }
	for k := range parts {
		notCombined(t, "one is wrong", api.ErrPart, good, msg, commits, with(parts, k, wrong(k)))
		notCombined(t, "an Id, and one is wrong", api.ErrArg, good, msg, commits, with(with(parts, 0, wrong(0)), 2, api.Share{Id: 4, X: 5}))
		for later := k + 1; later < 3; later++ {
			notCombined(t, "wrong, and above R", api.ErrPart, good, msg, commits, with(with(parts, k, wrong(k)), later, great(later)))
			notCombined(t, "above R, and wrong", api.ErrArg, good, msg, commits, with(with(parts, k, great(k)), later, wrong(later)))
		}
	}
}

// P6.6

func TestWhateverIsCombinedIsASignature(t *testing.T) {
	for k, x := range shapes() {
		c, shares := dealt(t, text(k), x.of, x.n)
		session, msg := sessions()[k%len(sessions())], messages()[k%len(messages())]
		for many := x.of; many <= x.n; many++ {
			for _, who := range some(shares, many) {
				commits := committed(t, who, session, msg)
				parts := answered(t, c, who, session, msg, commits)
				sig, e := quorum.Combine(c, msg, commits, parts)
				if e != api.OK || sign.Check(c.Key, msg, sig) != api.OK {
					t.Errorf("of %d of %d, %v make %v, %d", x.of, x.n, idsOf(who), sig, e)
				}
				if e := sign.Check(c.Key, append([]byte{1}, msg...), sig); e != api.ErrSig {
					t.Errorf("another message: %d", e)
				}
			}
		}
	}
}

func TestWhateverTheCommitmentsAreItIsASignature(t *testing.T) {
	msg := []byte("message")
	for _, x := range shapes() {
		c, shares := dealt(t, []byte("seed"), x.of, x.n)
		for _, nonces := range [][]uint64{{0, 0, 0, 0, 0, 0, 0}, {r - 1, 1, r - 1, 1, r - 1, 1, 0}, {5, 5, 5, 5, 5, 5, 5}} {
			var commits, parts []api.Share
			for k, s := range shares {
				commits = append(commits, api.Share{Id: s.Id, X: power(api.G, nonces[k])})
			}
			for k, s := range shares {
				parts = append(parts, answerOf(nonces[k], c, s, msg, commits))
			}
			sig, e := quorum.Combine(c, msg, commits, parts)
			if e != api.OK || sign.Check(c.Key, msg, sig) != api.OK {
				t.Errorf("of %d of %d, with the nonces %v: %v, %d", x.of, x.n, nonces, sig, e)
			}
		}
	}
}

func TestAPartThatIsAnotherOneIsFoundOutAndWhose(t *testing.T) {
	msg := []byte("message")
	for _, x := range shapes() {
		c, shares := dealt(t, []byte("seed"), x.of, x.n)
		commits := committed(t, shares, 7, msg)
		parts := answered(t, c, shares, 7, msg, commits)
		for bad := range parts {
			other := with(parts, bad, api.Share{Id: bad + 1, X: cyclic.AddR(parts[bad].X, 1)})
			notCombined(t, "another one", api.ErrPart, c, msg, commits, other)
			for k, part := range other {
				want := api.OK
				if k == bad {
					want = api.ErrPart
				}
				checked(t, "whose", want, c, msg, commits, part)
			}
		}
		// Two that make up for each other in the sum are found out all the same.
		if x.n > 1 {
			less := with(parts, 0, api.Share{Id: 1, X: cyclic.SubR(parts[0].X, 1)})
			notCombined(t, "two", api.ErrPart, c, msg, commits, with(less, 1, api.Share{Id: 2, X: cyclic.AddR(parts[1].X, 1)}))
		}
	}
}

// R2, R6

func TestNothingIsChangedAndNothingIsKept(t *testing.T) {
	seed, keptSeed, msg := text(40), text(40), text(50)
	c, shares := dealt(t, seed, 2, 3)
	firstParts, firstShares := slices.Clone(c.Parts), slices.Clone(shares)
	commits := committed(t, shares, 7, msg)
	firstCommits := slices.Clone(commits)
	parts := answered(t, c, shares, 7, msg, commits)
	answers := slices.Clone(parts)
	sig, _ := quorum.Combine(c, msg, commits, parts)
	mayBe(t, "as it was", api.OK, c)
	checked(t, "as it was", api.OK, c, msg, commits, parts[0])
	if !slices.Equal(seed, keptSeed) || !slices.Equal(msg, text(50)) || !slices.Equal(c.Parts, firstParts) || !slices.Equal(shares, firstShares) || !slices.Equal(commits, firstCommits) || !slices.Equal(parts, answers) {
		t.Error("what was handed in was changed")
	}
	clear(seed)
	clear(shares)
	if !slices.Equal(c.Parts, firstParts) {
		t.Error("what was answered was changed:", c)
	}
	clear(c.Parts)
	again, sharesAgain := dealt(t, keptSeed, 2, 3)
	if !slices.Equal(again.Parts, firstParts) || !slices.Equal(sharesAgain, firstShares) {
		t.Error("another answer to the same question")
	}
	if other, e := quorum.Combine(again, msg, firstCommits, answers); other != sig || e != api.OK {
		t.Error("another signature:", other, e)
	}
}
