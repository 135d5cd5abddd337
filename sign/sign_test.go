package sign_test

import (
	"encoding/binary"
	"math"
	"math/big"
	"slices"
	"testing"

	"greatseal/api"
	"greatseal/cyclic"
	"greatseal/hash"
	"greatseal/sign"
)

const (
	q = uint64(api.Q)
	r = uint64(api.R)
)

// ofSeed is Secret of the bytes "seed".
const ofSeed = uint64(341837621840769779)

// text is bytes that are all unlike their neighbours.
func text(length int) []byte {
	b := make([]byte, length)
	for k := range b {
		b[k] = byte(k*37 + length)
	}
	return b
}

func messages() [][]byte {
	return [][]byte{nil, {0}, {0, 0}, []byte("message"), []byte("messages"), text(64), text(1000)}
}

// secrets are those at both ends, and some between.
func secrets() []uint64 {
	l := []uint64{1, 2, 3, r/2 - 1, r / 2, r/2 + 1, r - 2, r - 1, ofSeed}
	for k := range 6 {
		l = append(l, sign.Secret([]byte{byte(k)}))
	}
	return l
}

// noSecrets are below the least secret, or above the greatest.
func noSecrets() []uint64 {
	return []uint64{0, r, r + 1, 2*r - 1, 2 * r, 2*r + 1, q, q + 1, 15*r + 1, 1 << 61, 1 << 63, math.MaxUint64 - 1, math.MaxUint64}
}

func big8(n uint64) []byte { return binary.BigEndian.AppendUint64(nil, n) }

func whole(n uint64) *big.Int { return new(big.Int).SetUint64(n) }

// num is what the chapter's hashes tell, of whole numbers.
func num(s api.Sum, below uint64) uint64 {
	n := new(big.Int).Lsh(whole(s[0]), 61)
	n.Add(n, whole(s[1]))
	return n.Mod(n, whole(below)).Uint64()
}

func power(a, n uint64) uint64 { return new(big.Int).Exp(whole(a), whole(n), whole(q)).Uint64() }

func publicOf(t *testing.T, secret uint64) uint64 {
	t.Helper()
	public, e := sign.Public(secret)
	if e != api.OK {
		t.Fatalf("Public(%d) tells %d", secret, e)
	}
	return public
}

func signed(t *testing.T, secret uint64, msg []byte) api.Sig {
	t.Helper()
	sig, e := sign.Sign(secret, msg)
	if e != api.OK {
		t.Fatalf("Sign(%d, %v) tells %d", secret, msg, e)
	}
	return sig
}

func checked(t *testing.T, what string, want api.Errno, public uint64, msg []byte, sig api.Sig) {
	t.Helper()
	if e := sign.Check(public, msg, sig); e != want {
		t.Errorf("%s: Check(%d, %v, %v) is %d, not %d", what, public, msg, sig, e, want)
	}
}

// answered is a signature with a nonce that is chosen, for a public key that need not be the secret's.
func answered(nonce, secret, public uint64, msg []byte) api.Sig {
	e := sign.Challenge(cyclic.Base(nonce), public, msg)
	return api.Sig{E: e, S: cyclic.AddR(nonce, cyclic.MulR(e, secret))}
}

// P4.1

// The numbers were worked out apart from the program.
func TestSecretsOfSeeds(t *testing.T) {
	for _, x := range []struct {
		seed []byte
		want uint64
	}{
		{nil, 992822011646943274},
		{[]byte{}, 992822011646943274},
		{[]byte{0}, 909351899760304279},
		{[]byte("seed"), ofSeed},
		{text(1000), 678262748136937005},
	} {
		if n := sign.Secret(x.seed); n != x.want {
			t.Errorf("Secret(%v) is %d, not %d", x.seed, n, x.want)
		}
	}
}

func TestSecretsAreWhatTheChapterSays(t *testing.T) {
	seen := map[uint64]int{}
	for length := range 300 {
		seed := text(length)
		n := sign.Secret(seed)
		if want := 1 + num(hash.Tagged("secret", seed), r-1); n != want {
			t.Errorf("Secret(%v) is %d, not %d", seed, n, want)
		}
		if n < 1 || n >= r {
			t.Errorf("Secret(%v) is %d, which is no secret", seed, n)
		}
		if other, ok := seen[n]; ok {
			t.Errorf("seeds of %d and %d bytes have one secret", other, length)
		}
		seen[n] = length
	}
}

func TestPublicKeys(t *testing.T) {
	for _, x := range []struct{ secret, want uint64 }{
		{1, 4}, {2, 16}, {3, 64}, {r - 1, 576460752303422895}, {ofSeed, 1746141898101279046},
	} {
		if n, e := sign.Public(x.secret); n != x.want || e != api.OK {
			t.Errorf("Public(%d) is %d, %d, not %d", x.secret, n, e, x.want)
		}
	}
	for _, secret := range secrets() {
		n := publicOf(t, secret)
		if want := power(api.G, secret); n != want || !cyclic.In(n) {
			t.Errorf("Public(%d) is %d, not %d", secret, n, want)
		}
	}
}

func TestWhatIsNoSecretHasNoPublicKey(t *testing.T) {
	for _, secret := range noSecrets() {
		if n, e := sign.Public(secret); n != 0 || e != api.ErrArg {
			t.Errorf("Public(%d) is %d, %d", secret, n, e)
		}
	}
}

// P4.2

// The numbers were worked out apart from the program.
func TestChallenges(t *testing.T) {
	for _, x := range []struct {
		commit, public uint64
		msg            []byte
		want           uint64
	}{
		{0, 0, nil, 382758868577949750},
		{0, 0, []byte{}, 382758868577949750},
		{1, 4, nil, 807591073154101620},
		{0x0102030405060708, 0x090a0b0c0d0e0f10, []byte("message"), 1075382213079771774},
		{q, r, []byte("a"), 855379288383451699},
		{math.MaxUint64, math.MaxUint64, []byte("a"), 418612390342711560},
		{4, 4, []byte("a"), 304066035997521023},
		{q + 4, 4, []byte("a"), 125255231889234378},
		{math.MaxUint64, 0, text(1000), 234442694708313934},
	} {
		if n := sign.Challenge(x.commit, x.public, x.msg); n != x.want {
			t.Errorf("Challenge(%d, %d, %v) is %d, not %d", x.commit, x.public, x.msg, n, x.want)
		}
	}
}

// Numbers of Q and above are hashed as they are: none is mistaken for what it is modulo Q, or R.
func TestChallengesAreWhatTheChapterSays(t *testing.T) {
	numbers := []uint64{0, 1, 4, 255, 256, 1 << 32, r - 1, r, r + 4, q - 1, q, q + 1, q + 4, 2*q + 4, 1 << 61, 1 << 63, math.MaxUint64 - 1, math.MaxUint64}
	seen := map[uint64]bool{}
	for _, commit := range numbers {
		for _, public := range numbers {
			for _, msg := range messages() {
				n := sign.Challenge(commit, public, msg)
				if want := num(hash.Tagged("sign", big8(commit), big8(public), msg), r); n != want || n >= r {
					t.Errorf("Challenge(%d, %d, %v) is %d, not %d", commit, public, msg, n, want)
				}
				if seen[n] {
					t.Errorf("Challenge(%d, %d, %v) is that of others", commit, public, msg)
				}
				seen[n] = true
			}
		}
	}
}

// P4.3

// The numbers were worked out apart from the program.
func TestSignatures(t *testing.T) {
	message := []byte("message")
	for _, x := range []struct {
		secret uint64
		msg    []byte
		want   api.Sig
	}{
		{1, nil, api.Sig{E: 822208157948323091, S: 716738297359106463}},
		{1, []byte{}, api.Sig{E: 822208157948323091, S: 716738297359106463}},
		{1, message, api.Sig{E: 573977952579049158, S: 155243156314108731}},
		{1, text(1000), api.Sig{E: 467576785151583667, S: 426043160658933166}},
		{2, nil, api.Sig{E: 1062733275980713545, S: 981373621624999757}},
		{2, message, api.Sig{E: 526572301316590913, S: 142536047004741644}},
		{r - 1, nil, api.Sig{E: 406830195637133481, S: 1011159736312123434}},
		{r - 1, message, api.Sig{E: 992492724368216677, S: 544431829270200138}},
		{r - 1, text(1000), api.Sig{E: 128509622770424371, S: 1077867780979519461}},
		{ofSeed, nil, api.Sig{E: 1138064633536874486, S: 940993676219605253}},
		{ofSeed, message, api.Sig{E: 1008852173326058262, S: 304527383690712607}},
		{ofSeed, text(1000), api.Sig{E: 739753459135672086, S: 215381219184821497}},
	} {
		if sig, e := sign.Sign(x.secret, x.msg); sig != x.want || e != api.OK {
			t.Errorf("Sign(%d, %v) is %v, %d, not %v", x.secret, x.msg, sig, e, x.want)
		}
	}
}

func TestSignaturesAreWhatTheChapterSays(t *testing.T) {
	for _, secret := range secrets() {
		for _, msg := range messages() {
			k := 1 + num(hash.Tagged("nonce", big8(secret), msg), r-1)
			e := num(hash.Tagged("sign", big8(power(api.G, k)), big8(power(api.G, secret)), msg), r)
			s := new(big.Int).Mul(whole(e), whole(secret))
			s.Mod(s.Add(s, whole(k)), whole(r))
			if sig, want := signed(t, secret, msg), (api.Sig{E: e, S: s.Uint64()}); sig != want {
				t.Errorf("Sign(%d, %v) is %v, not %v", secret, msg, sig, want)
			}
		}
	}
}

func TestWhatIsNoSecretSignsNothing(t *testing.T) {
	for _, secret := range noSecrets() {
		for _, msg := range messages() {
			if sig, e := sign.Sign(secret, msg); sig != (api.Sig{}) || e != api.ErrArg {
				t.Errorf("Sign(%d, %v) is %v, %d", secret, msg, sig, e)
			}
		}
	}
}

// P4.4

// The chapter's example.
func TestWhatIsSignedIsRight(t *testing.T) {
	for _, secret := range secrets() {
		public := publicOf(t, secret)
		for _, msg := range messages() {
			sig := signed(t, secret, msg)
			checked(t, "signed", api.OK, public, msg, sig)
			checked(t, "E of R", api.ErrSig, public, msg, api.Sig{E: r, S: sig.S})
			checked(t, "S of R", api.ErrSig, public, msg, api.Sig{E: sig.E, S: r})
		}
	}
}

// A number of R more makes the same commitment, and is not right all the same.
func TestNumbersOfSignaturesAreBelowR(t *testing.T) {
	msg := []byte("message")
	public, sig := publicOf(t, ofSeed), signed(t, ofSeed, msg)
	for k := uint64(1); k <= 14; k++ {
		checked(t, "E more", api.ErrSig, public, msg, api.Sig{E: sig.E + k*r, S: sig.S})
		checked(t, "S more", api.ErrSig, public, msg, api.Sig{E: sig.E, S: sig.S + k*r})
		checked(t, "both more", api.ErrSig, public, msg, api.Sig{E: sig.E + k*r, S: sig.S + k*r})
	}
	for _, n := range []uint64{0, 1, sig.E - 1, sig.E + 1, r - 1, r, r + 1, q, 1 << 61, 1 << 63, math.MaxUint64 - 1, math.MaxUint64} {
		checked(t, "another E", api.ErrSig, public, msg, api.Sig{E: n, S: sig.S})
		checked(t, "E of both", api.ErrSig, public, msg, api.Sig{E: n, S: n})
	}
	for _, n := range []uint64{0, 1, sig.S - 1, sig.S + 1, r - 1, r, r + 1, q, 1 << 61, 1 << 63, math.MaxUint64 - 1, math.MaxUint64} {
		checked(t, "another S", api.ErrSig, public, msg, api.Sig{E: sig.E, S: n})
	}
	checked(t, "turned about", api.ErrSig, public, msg, api.Sig{E: sig.S, S: sig.E})
}

// 1 is of the group, and anybody's: its exponent is 0, so that S is the nonce, and may be at either end.
func TestTheLeastAndTheGreatestAnswerAreRight(t *testing.T) {
	for _, msg := range messages() {
		for _, s := range []uint64{0, 1, r - 2, r - 1} {
			e := sign.Challenge(cyclic.Base(s), 1, msg)
			checked(t, "at an end", api.OK, 1, msg, api.Sig{E: e, S: s})
			for k := uint64(1); k <= 14; k++ {
				checked(t, "behind the end", api.ErrSig, 1, msg, api.Sig{E: e, S: s + k*r})
			}
		}
	}
}

func TestSignaturesOfOthersAreNotRight(t *testing.T) {
	for _, msg := range messages() {
		for _, signer := range secrets() {
			sig := signed(t, signer, msg)
			for _, other := range secrets() {
				if other != signer {
					checked(t, "another one's", api.ErrSig, publicOf(t, other), msg, sig)
				}
			}
		}
	}
}

func TestSignaturesOfOtherMessagesAreNotRight(t *testing.T) {
	public := publicOf(t, ofSeed)
	for i, msg := range messages() {
		sig := signed(t, ofSeed, msg)
		for j, other := range messages() {
			if j != i {
				checked(t, "of another message", api.ErrSig, public, other, sig)
			}
		}
		for k := range msg {
			other := slices.Clone(msg)
			other[k] ^= 1
			checked(t, "of a bit that is another one", api.ErrSig, public, other, sig)
		}
	}
}

// keysOfNobody are not of the group.
func keysOfNobody() []uint64 {
	return []uint64{0, q - 1, q - 4, q - 16, q, q + 1, q + 4, 2 * q, 2*q + 4, 7*q + 4, 1 << 63, math.MaxUint64 - 1, math.MaxUint64}
}

func TestKeysThatAreNotOfTheGroup(t *testing.T) {
	msg := []byte("message")
	sig := signed(t, 1, msg)
	for _, public := range keysOfNobody() {
		checked(t, "as it was signed", api.ErrArg, public, msg, sig)
		checked(t, "of no message", api.ErrArg, public, nil, api.Sig{})
		// What is wrong with the key is told ahead of what is wrong with the signature.
		for _, n := range []uint64{0, r - 1, r, r + 1, math.MaxUint64} {
			checked(t, "E", api.ErrArg, public, msg, api.Sig{E: n, S: sig.S})
			checked(t, "S", api.ErrArg, public, msg, api.Sig{E: sig.E, S: n})
			checked(t, "both", api.ErrArg, public, msg, api.Sig{E: n, S: n})
		}
	}
}

// For each of these keys the challenge comes out as it should: only that the key is not of the group is wrong.
func TestKeysThatAreNotOfTheGroupAndFit(t *testing.T) {
	secret := ofSeed
	own := publicOf(t, secret)
	for _, msg := range messages() {
		for _, zero := range []uint64{0, q, 2 * q, 8 * q} {
			checked(t, "powers are 0", api.ErrArg, zero, msg, api.Sig{E: sign.Challenge(0, zero, msg), S: 1})
		}
		for k := uint64(1); k <= 6; k++ {
			public := own + k*q
			checked(t, "the same modulo Q", api.ErrArg, public, msg, answered(5, secret, public, msg))
		}
		// Of what is missing to Q the even powers are the same: R less E is even for an odd E.
		odd := 0
		for nonce := uint64(1); odd < 3; nonce++ {
			sig := answered(nonce, secret, q-own, msg)
			if sig.E%2 == 0 {
				continue
			}
			odd++
			checked(t, "what is missing to Q", api.ErrArg, q-own, msg, sig)
		}
	}
}

// 1 is of the group, but what another one has signed is not right by it.
func TestTheKeyOne(t *testing.T) {
	msg := []byte("message")
	checked(t, "another one's", api.ErrSig, 1, msg, signed(t, ofSeed, msg))
	checked(t, "nothing", api.ErrSig, 1, msg, api.Sig{})
}

// P4.5

func TestWhatIsSignedIsRightWhateverTheNonce(t *testing.T) {
	for _, secret := range secrets() {
		public := publicOf(t, secret)
		for _, nonce := range []uint64{0, 1, 2, secret, r - secret, r / 2, r - 2, r - 1} {
			for _, msg := range messages() {
				checked(t, "with a nonce", api.OK, public, msg, answered(nonce, secret, public, msg))
			}
		}
	}
}

func TestUnlikeSecretsHaveUnlikePublicKeys(t *testing.T) {
	seen := map[uint64]uint64{}
	for k := uint64(1); k <= 500; k++ {
		for _, secret := range []uint64{k, r - k, r/2 - 250 + k + 1<<20} {
			public := publicOf(t, secret)
			if other, ok := seen[public]; ok {
				t.Errorf("%d and %d have one public key", other, secret)
			}
			seen[public] = secret
		}
	}
}

func TestOneNonceTwiceGivesTheSecretAway(t *testing.T) {
	for _, secret := range secrets() {
		public := publicOf(t, secret)
		for _, nonce := range []uint64{1, 77, r - 1} {
			a := answered(nonce, secret, public, []byte("one"))
			b := answered(nonce, secret, public, []byte("two"))
			if got := given(t, a, b); got != secret {
				t.Errorf("%d was given away as %d", secret, got)
			}
		}
	}
}

// given is the secret that two signatures with one nonce give away.
func given(t *testing.T, a, b api.Sig) uint64 {
	t.Helper()
	inverse, e := cyclic.InvR(cyclic.SubR(a.E, b.E))
	if e != api.OK {
		t.Fatal("one challenge for two messages:", a, b)
	}
	return cyclic.MulR(cyclic.SubR(a.S, b.S), inverse)
}

// Sign itself gives nothing away: each message, and each secret, has a nonce of its own.
func TestNoncesAreNotUsedTwice(t *testing.T) {
	seen := map[uint64]bool{}
	for _, secret := range secrets() {
		for _, msg := range messages() {
			sig := signed(t, secret, msg)
			nonce := cyclic.SubR(sig.S, cyclic.MulR(sig.E, secret))
			if nonce == 0 || seen[nonce] {
				t.Errorf("the nonce %d of %d and %v", nonce, secret, msg)
			}
			seen[nonce] = true
		}
	}
}

// R2, R6

func TestNothingIsChangedAndNothingIsKept(t *testing.T) {
	msg := text(40)
	kept := slices.Clone(msg)
	secret := sign.Secret(msg)
	public := publicOf(t, secret)
	challenge, sig := sign.Challenge(4, public, msg), signed(t, secret, msg)
	checked(t, "signed", api.OK, public, msg, sig)
	if !slices.Equal(msg, kept) {
		t.Error("the message was changed:", msg)
	}
	clear(msg)
	checked(t, "of a message that was overwritten", api.ErrSig, public, msg, sig)
	if sign.Secret(kept) != secret || sign.Challenge(4, public, kept) != challenge || signed(t, secret, kept) != sig {
		t.Error("another answer to the same question")
	}
	checked(t, "again", api.OK, public, kept, sig)
}
