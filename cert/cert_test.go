package cert_test

import (
	"bytes"
	"math"
	"slices"
	"strconv"
	"strings"
	"testing"

	"greatseal/api"
	"greatseal/cert"
	"greatseal/der"
	"greatseal/merkle"
)

func promise(log int) api.Promise {
	return api.Promise{Log: log, At: 3, Leaf: api.Sum{5, 6}, Sig: api.Sig{E: 7, S: 8}}
}

// site is a certificate for names, with all that it may have.
func site() api.Cert {
	return api.Cert{Serial: 1, Issuer: "greatseal", Key: 4, Names: []string{"x.a", "b"}, From: 0, Until: 9, Proms: []api.Promise{promise(0), promise(200)}, Sig: api.Sig{E: 130, S: 9}}
}

// authority is one of an authority, with all that it may have.
func authority() api.Cert {
	return api.Cert{Serial: 2, Issuer: "root", Subject: "greatseal", Key: 16, From: 5, Until: 300, Ca: true, Depth: 2, Permit: []string{"*.a", "b"}, Proms: []api.Promise{promise(3)}, Sig: api.Sig{E: 1, S: 2}}
}

func changed(c api.Cert, change func(c *api.Cert)) api.Cert {
	c = copied(c)
	change(&c)
	return c
}

func copied(c api.Cert) api.Cert {
	c.Names, c.Permit, c.Proms = slices.Clone(c.Names), slices.Clone(c.Permit), slices.Clone(c.Proms)
	return c
}

func names(many int) []string {
	return []string{"a", "b.a", "_c.a", "a-b", "0", "x.y.z", "a.a", "z", "zz"}[:many]
}

func pats(many int) []string {
	return []string{"a", "*.a", "b.a", "*.b.a", "_c.a", "a-b", "0", "z", "zz"}[:many]
}

// longest have all that there may be, of the greatest size; the first one is an authority.
func longest() []api.Cert {
	number := api.MaxTime
	text := strings.Repeat("~", 64)
	sig := api.Sig{E: api.R - 1, S: api.R - 1}
	c := api.Cert{Serial: number, Issuer: text, Subject: text, Key: api.Q - 1, From: number - 1, Until: number, Ca: true, Depth: 4, Sig: sig}
	for k := range 4 {
		c.Proms = append(c.Proms, api.Promise{Log: number - 3 + k, At: number, Leaf: api.Sum{api.P - 1, api.P - 1}, Sig: sig})
	}
	other := copied(c)
	other.Ca, other.Subject, other.Depth = false, "", 0
	for k := range 8 {
		c.Permit = append(c.Permit, "*."+strconv.Itoa(k)+"bcdefgh."+strings.Repeat("abcdefgh.", 5)+"abcdefgh")
		other.Names = append(other.Names, strconv.Itoa(k)+"bcdefg."+strings.Repeat("abcdefg.", 6)+"abcdefgh")
	}
	return []api.Cert{c, other}
}

func numbers() []int { return []int{0, 1, 127, 128, 255, 256, 1 << 32, api.MaxTime - 1, api.MaxTime} }

func noNumbers() []int {
	return []int{math.MinInt, -128, -2, -1, api.MaxTime + 1, api.MaxTime + 2, math.MaxInt}
}

func texts() []string {
	l := []string{"a", "Great~!", strings.Repeat("x", 63), strings.Repeat("x", 64)}
	for b := byte(33); b <= 126; b++ {
		l = append(l, string(b), "ab"+string(b))
	}
	return l
}

func noTexts() []string {
	l := []string{"", strings.Repeat("x", 65), strings.Repeat("x", 1000), "ä", "a b", "\xff"}
	for b := range 256 {
		if b < 33 || b > 126 {
			l = append(l, string([]byte{byte(b)}), string([]byte{'a', byte(b)}), string([]byte{byte(b), 'a'}))
		}
	}
	return l
}

func noNames() []string {
	return []string{"", ".", "a..b", ".a", "a.", "-a", "A", "*", "*.", "_", "a b", "ä", strings.Repeat("a", 17), "a.a.a.a.a.a.a.a.b"}
}

func sigs() []api.Sig {
	return []api.Sig{{}, {E: 1}, {S: 1}, {E: api.R - 1}, {S: api.R - 1}, {E: api.R - 1, S: api.R - 1}, {E: 128, S: 1 << 40}}
}

func noSigs() []api.Sig {
	return []api.Sig{{E: api.R}, {S: api.R}, {E: api.R, S: api.R}, {E: api.R + 1}, {S: math.MaxUint64}, {E: math.MaxUint64}, {E: 1 << 63}, {S: 1 << 63}}
}

// mayBe are certificates that have form, with each thing at its edges.
func mayBe() []api.Cert {
	l := append(longest(), site(), authority())
	for _, base := range []api.Cert{site(), authority()} {
		add := func(change func(c *api.Cert)) { l = append(l, changed(base, change)) }
		for _, n := range numbers() {
			add(func(c *api.Cert) { c.Serial = n })
			add(func(c *api.Cert) { c.From, c.Until = min(n, api.MaxTime-1), min(n, api.MaxTime-1)+1 })
			add(func(c *api.Cert) { c.From, c.Until = 0, max(n, 1) })
			add(func(c *api.Cert) { c.Proms[0].Log = n; c.Proms = c.Proms[:1] })
			add(func(c *api.Cert) { c.Proms[0].At = n })
		}
		for _, s := range texts() {
			add(func(c *api.Cert) { c.Issuer = s })
		}
		for _, key := range []uint64{1, 2, 3, 127, 128, api.Q - 2, api.Q - 1} {
			add(func(c *api.Cert) { c.Key = key })
		}
		for _, sig := range sigs() {
			add(func(c *api.Cert) { c.Sig = sig })
			add(func(c *api.Cert) { c.Proms[0].Sig = sig })
		}
		for _, n := range []uint64{0, 1, 128, api.P - 2, api.P - 1} {
			add(func(c *api.Cert) { c.Proms[0].Leaf[0] = n })
			add(func(c *api.Cert) { c.Proms[0].Leaf[1] = n })
		}
		for many := range 5 {
			add(func(c *api.Cert) { c.Proms = []api.Promise{promise(0), promise(1), promise(5), promise(200)}[:many] })
		}
	}
	for many := range 9 {
		if many > 0 {
			l = append(l, changed(site(), func(c *api.Cert) { c.Names = names(many) }))
		}
		l = append(l, changed(authority(), func(c *api.Cert) { c.Permit = pats(many) }))
	}
	for _, s := range texts() {
		l = append(l, changed(authority(), func(c *api.Cert) { c.Subject = s }))
	}
	for depth := range 5 {
		l = append(l, changed(authority(), func(c *api.Cert) { c.Depth = depth }))
	}
	return l
}

// mayNot are certificates that have not form.
func mayNot() []api.Cert {
	l := []api.Cert{{}, {Ca: true}}
	for _, base := range []api.Cert{site(), authority()} {
		add := func(change func(c *api.Cert)) { l = append(l, changed(base, change)) }
		for _, n := range noNumbers() {
			add(func(c *api.Cert) { c.Serial = n })
			add(func(c *api.Cert) { c.From = n })
			add(func(c *api.Cert) { c.Until = n })
			add(func(c *api.Cert) { c.From, c.Until = n, max(n, n+1) })
			add(func(c *api.Cert) { c.Proms = c.Proms[:1]; c.Proms[0].Log = n })
			for k := range base.Proms {
				add(func(c *api.Cert) { c.Proms[k].At = n })
			}
		}
		for _, n := range numbers() {
			add(func(c *api.Cert) { c.From, c.Until = n, n })
			add(func(c *api.Cert) { c.From, c.Until = n, n-1 })
		}
		for _, s := range noTexts() {
			add(func(c *api.Cert) { c.Issuer = s })
		}
		for _, key := range []uint64{0, api.Q, api.Q + 1, api.P, 1 << 63, math.MaxUint64} {
			add(func(c *api.Cert) { c.Key = key })
		}
		for _, sig := range noSigs() {
			add(func(c *api.Cert) { c.Sig = sig })
			for k := range base.Proms {
				add(func(c *api.Cert) { c.Proms[k].Sig = sig })
			}
		}
		for _, n := range []uint64{api.P, api.P + 1, 1 << 63, math.MaxUint64} {
			for k := range base.Proms {
				add(func(c *api.Cert) { c.Proms[k].Leaf[0] = n })
				add(func(c *api.Cert) { c.Proms[k].Leaf[1] = n })
			}
		}
		for _, logs := range [][]int{{0, 1, 2, 3, 4}, {0, 1, 2, 3, 4, 5}, {0, 0}, {1, 0}, {0, 2, 1}, {1, 2, 2}, {0, 1, 0}, {3, 2, 1, 0}} {
			add(func(c *api.Cert) {
				c.Proms = nil
				for k, log := range logs {
					p := promise(log)
					p.At = k
					c.Proms = append(c.Proms, p)
				}
			})
		}
		add(func(c *api.Cert) { c.Ca = !c.Ca })
		add(func(c *api.Cert) { c.Names = nil; c.Subject = ""; c.Ca = false })
		add(func(c *api.Cert) { c.Names, c.Permit, c.Subject, c.Depth = []string{"a"}, []string{"a"}, "s", 1 })
	}
	site := func(change func(c *api.Cert)) { l = append(l, changed(site(), change)) }
	authority := func(change func(c *api.Cert)) { l = append(l, changed(authority(), change)) }
	for _, s := range append(texts(), noTexts()[1:]...) {
		site(func(c *api.Cert) { c.Subject = s })
	}
	for _, s := range noTexts() {
		authority(func(c *api.Cert) { c.Subject = s })
	}
	for _, s := range append(noNames(), "*.a") {
		for at := range 3 {
			site(func(c *api.Cert) { c.Names = slices.Insert(c.Names, at, s) })
		}
		site(func(c *api.Cert) { c.Names = []string{s} })
		authority(func(c *api.Cert) { c.Names = []string{s} })
	}
	for _, s := range append(noNames(), "*.*.a", "*.a.a.a.a.a.a.a.b", "a.*") {
		for at := range 3 {
			authority(func(c *api.Cert) { c.Permit = slices.Insert(c.Permit, at, s) })
		}
		authority(func(c *api.Cert) { c.Permit = []string{s} })
		site(func(c *api.Cert) { c.Permit = []string{s} })
	}
	for at := range 8 {
		for other := range at {
			site(func(c *api.Cert) { c.Names = names(8); c.Names[at] = c.Names[other] })
			authority(func(c *api.Cert) { c.Permit = pats(8); c.Permit[at] = c.Permit[other] })
		}
	}
	site(func(c *api.Cert) { c.Names = names(9) })
	site(func(c *api.Cert) { c.Permit = pats(1) })
	authority(func(c *api.Cert) { c.Permit = pats(9) })
	authority(func(c *api.Cert) { c.Names = names(1) })
	for _, n := range []int{math.MinInt, -1, 5, 6, math.MaxInt} {
		site(func(c *api.Cert) { c.Depth = n })
		authority(func(c *api.Cert) { c.Depth = n })
	}
	for _, n := range []int{1, 2, 4} {
		site(func(c *api.Cert) { c.Depth = n })
	}
	return l
}

func same(a, b api.Cert) bool {
	return slices.Equal(a.Names, b.Names) && slices.Equal(a.Permit, b.Permit) && slices.Equal(a.Proms, b.Proms) && bare(a) == bare(b)
}

// fields are those that are no lists.
type fields struct {
	issuer, subject            string
	serial, from, until, depth int
	ca                         bool
	key                        uint64
	sig                        api.Sig
}

func bare(c api.Cert) fields {
	return fields{issuer: c.Issuer, subject: c.Subject, serial: c.Serial, from: c.From, until: c.Until, depth: c.Depth, ca: c.Ca, key: c.Key, sig: c.Sig}
}

// encoded are bytes of a tag, with the length that they have.
func encoded(tag byte, parts ...[]byte) []byte {
	content := bytes.Join(parts, nil)
	head := []byte{tag, byte(len(content))}
	switch {
	case len(content) > 255:
		head = []byte{tag, 130, byte(len(content) >> 8), byte(len(content))}
	case len(content) > 127:
		head = []byte{tag, 129, byte(len(content))}
	}
	return append(head, content...)
}

func intBytes(n uint64) []byte {
	b := []byte{byte(n)}
	for n >>= 8; n > 0; n >>= 8 {
		b = append([]byte{byte(n)}, b...)
	}
	if b[0] > 127 {
		b = append([]byte{0}, b...)
	}
	return encoded(2, b)
}

func textBytes(l ...string) []byte {
	var parts [][]byte
	for _, s := range l {
		parts = append(parts, encoded(12, []byte(s)))
	}
	return bytes.Join(parts, nil)
}

// preBytes, bodyBytes and wholeBytes are worked out apart from the program.
func preBytes(c api.Cert) []byte {
	ca := []byte{1, 1, 0}
	if c.Ca {
		ca[2] = 255
	}
	return encoded(48, intBytes(uint64(c.Serial)), textBytes(c.Issuer, c.Subject), intBytes(c.Key), encoded(48, textBytes(c.Names...)), intBytes(uint64(c.From)), intBytes(uint64(c.Until)), ca, intBytes(uint64(c.Depth)), encoded(48, textBytes(c.Permit...)))
}

func bodyBytes(c api.Cert) []byte {
	var proms []byte
	for _, p := range c.Proms {
		proms = append(proms, encoded(48, intBytes(uint64(p.Log)), intBytes(uint64(p.At)), intBytes(p.Leaf[0]), intBytes(p.Leaf[1]), intBytes(p.Sig.E), intBytes(p.Sig.S))...)
	}
	return encoded(48, preBytes(c), encoded(48, proms))
}

func wholeBytes(c api.Cert) []byte {
	return encoded(48, bodyBytes(c), encoded(48, intBytes(c.Sig.E), intBytes(c.Sig.S)))
}

// way is one of the three ways in which a certificate is bytes.
type way struct {
	name string
	put  func(c api.Cert) ([]byte, api.Errno)
	get  func(b []byte) (api.Cert, api.Errno)
	want func(c api.Cert) []byte
	// What the bytes say of a certificate.
	said func(c api.Cert) api.Cert
}

func ways() []way {
	return []way{
		{"pre", cert.Pre, cert.GetPre, preBytes, func(c api.Cert) api.Cert { c.Proms, c.Sig = nil, api.Sig{}; return c }},
		{"body", cert.Body, cert.GetBody, bodyBytes, func(c api.Cert) api.Cert { c.Sig = api.Sig{}; return c }},
		{"whole", cert.Put, cert.Get, wholeBytes, func(c api.Cert) api.Cert { return c }},
	}
}

func checked(t *testing.T, want api.Errno, c api.Cert) {
	t.Helper()
	if e := cert.Check(c); e != want {
		t.Errorf("Check(%v) is %d, not %d", c, e, want)
	}
}

func (w way) notGot(t *testing.T, what string, want api.Errno, b []byte) {
	t.Helper()
	if c, e := w.get(b); !same(c, api.Cert{}) || e != want {
		t.Errorf("%s: the %s of %v is %v, %d, not %d", what, w.name, b, c, e, want)
	}
}

func (w way) got(t *testing.T, want api.Cert, b []byte) {
	t.Helper()
	if c, e := w.get(b); !same(c, want) || e != api.OK {
		t.Errorf("the %s of %v is %v, %d, not %v", w.name, b, c, e, want)
	}
}

// P18.1

func TestCheck(t *testing.T) {
	for _, c := range mayBe() {
		checked(t, api.OK, c)
	}
	for _, c := range mayNot() {
		checked(t, api.ErrArg, c)
	}
}

// The longest certificates have fewer bytes than there may be.
func TestNoneIsTooLong(t *testing.T) {
	for _, c := range longest() {
		checked(t, api.OK, c)
		if b, e := cert.Put(c); len(b) < 900 || len(b) > api.MaxBody || e != api.OK {
			t.Errorf("Put(%v) has %d bytes, and tells %d", c, len(b), e)
		}
	}
}

func TestSame(t *testing.T) {
	all := []api.Cert{{}, site(), authority()}
	for _, change := range []func(c *api.Cert){
		func(c *api.Cert) { c.Serial += 7 }, func(c *api.Cert) { c.Issuer += "x" }, func(c *api.Cert) { c.Subject += "x" }, func(c *api.Cert) { c.Key += 7 }, func(c *api.Cert) { c.From-- }, func(c *api.Cert) { c.Until++ }, func(c *api.Cert) { c.Ca = !c.Ca }, func(c *api.Cert) { c.Depth++ },
		func(c *api.Cert) { c.Names = append(c.Names, "z") }, func(c *api.Cert) { c.Names = append([]string{"y"}, c.Names...) }, func(c *api.Cert) { c.Permit = append(c.Permit, "z") }, func(c *api.Cert) { c.Permit = append([]string{""}, c.Permit...) },
		func(c *api.Cert) { c.Proms = append(c.Proms, promise(500)) }, func(c *api.Cert) { c.Proms = c.Proms[1:] }, func(c *api.Cert) { c.Proms[0].Log++ }, func(c *api.Cert) { c.Proms[0].At++ }, func(c *api.Cert) { c.Proms[0].Leaf[0]++ }, func(c *api.Cert) { c.Proms[0].Leaf[1]++ }, func(c *api.Cert) { c.Proms[0].Sig.E++ }, func(c *api.Cert) { c.Proms[0].Sig.S++ },
		func(c *api.Cert) { c.Sig.E++ }, func(c *api.Cert) { c.Sig.S++ },
	} {
		all = append(all, changed(site(), change), changed(authority(), change))
	}
	all = append(all, changed(site(), func(c *api.Cert) { slices.Reverse(c.Names) }), changed(site(), func(c *api.Cert) { c.Names[0] = "q" }), changed(site(), func(c *api.Cert) { c.Names = c.Names[:1] }), changed(site(), func(c *api.Cert) { slices.Reverse(c.Proms) }), changed(authority(), func(c *api.Cert) { slices.Reverse(c.Permit) }), changed(authority(), func(c *api.Cert) { c.Permit[1] = "q" }), changed(authority(), func(c *api.Cert) { c.Permit = nil }))
	for i, a := range all {
		for k, b := range all {
			if cert.Same(a, b) != (i == k) {
				t.Errorf("Same(%v, %v) is not %v", a, b, i == k)
			}
		}
		if !cert.Same(a, copied(a)) {
			t.Errorf("Same(%v, a copy) is false", a)
		}
	}
	if !cert.Same(api.Cert{Names: []string{}, Permit: []string{}, Proms: []api.Promise{}}, api.Cert{}) {
		t.Error("a list without elements is not the same as none")
	}
}

// P18.2

func TestBytes(t *testing.T) {
	for _, c := range mayBe() {
		for _, w := range ways() {
			if b, e := w.put(c); !bytes.Equal(b, w.want(c)) || e != api.OK {
				t.Errorf("the %s of %v is %v, %d, not %v", w.name, c, b, e, w.want(c))
			}
		}
		if s, e := cert.Leaf(c); s != merkle.Leaf(preBytes(c)) || e != api.OK {
			t.Errorf("Leaf(%v) is %v, %d", c, s, e)
		}
	}
	for _, c := range mayNot() {
		for _, w := range ways() {
			if b, e := w.put(c); len(b) != 0 || e != api.ErrArg {
				t.Errorf("the %s of %v is %v, %d", w.name, c, b, e)
			}
		}
		if s, e := cert.Leaf(c); s != (api.Sum{}) || e != api.ErrArg {
			t.Errorf("Leaf(%v) is %v, %d", c, s, e)
		}
	}
}

func TestBytesOfOne(t *testing.T) {
	c := api.Cert{Serial: 1, Issuer: "i", Key: 128, Names: []string{"a", "b.c"}, From: 2, Until: 300, Proms: []api.Promise{{Log: 5, At: 6, Leaf: api.Sum{7, 255}, Sig: api.Sig{E: 8, S: 9}}}, Sig: api.Sig{E: 10, S: 256}}
	pre := []byte{48, 38, 2, 1, 1, 12, 1, 'i', 12, 0, 2, 2, 0, 128, 48, 8, 12, 1, 'a', 12, 3, 'b', '.', 'c', 2, 1, 2, 2, 2, 1, 44, 1, 1, 0, 2, 1, 0, 48, 0}
	pre[1] = byte(len(pre) - 2)
	body := slices.Concat([]byte{48, byte(len(pre) + 23)}, pre, []byte{48, 21, 48, 19, 2, 1, 5, 2, 1, 6, 2, 1, 7, 2, 2, 0, 255, 2, 1, 8, 2, 1, 9})
	whole := slices.Concat([]byte{48, byte(len(body) + 9)}, body, []byte{48, 7, 2, 1, 10, 2, 2, 1, 0})
	for k, want := range [][]byte{pre, body, whole} {
		w := ways()[k]
		if b, e := w.put(c); !bytes.Equal(b, want) || e != api.OK {
			t.Errorf("the %s is %v, %d, not %v", w.name, b, e, want)
		}
		w.got(t, w.said(c), want)
	}
}

// P18.3

func TestGet(t *testing.T) {
	for _, c := range mayBe() {
		for k, w := range ways() {
			w.got(t, w.said(c), w.want(c))
			for other, otherWay := range ways() {
				if other != k {
					otherWay.notGot(t, "another one's bytes", api.ErrForm, w.want(c))
				}
			}
		}
	}
	for _, w := range ways() {
		for _, c := range mayNot() {
			// Of numbers below 0, and of those without room, there are no such bytes; they come below.
			if c.Serial < 0 || c.From < 0 || c.Until < 0 || c.Depth < 0 || c.Key > math.MaxInt || strings.ContainsFunc(c.Issuer+c.Subject, func(r rune) bool { return r > 126 || r < 32 }) || slices.ContainsFunc(c.Names, isStrange) || slices.ContainsFunc(c.Permit, isStrange) {
				continue
			}
			said := w.said(c)
			if slices.ContainsFunc(said.Proms, func(p api.Promise) bool {
				return p.Log < 0 || p.At < 0 || max(p.Leaf[0], p.Leaf[1], p.Sig.E, p.Sig.S) > math.MaxInt
			}) || max(said.Sig.E, said.Sig.S) > math.MaxInt {
				continue
			}
			if cert.Check(said) == api.OK {
				w.got(t, said, w.want(c))
			} else {
				w.notGot(t, "may not be", api.ErrForm, w.want(c))
			}
		}
	}
}

func isStrange(s string) bool {
	return strings.ContainsFunc(s, func(r rune) bool { return r > 126 || r < 32 })
}

func TestErrorsOfBytes(t *testing.T) {
	for _, w := range ways() {
		w.notGot(t, "nothing", api.ErrShort, nil)
		for _, c := range []api.Cert{site(), authority(), longest()[0]} {
			b := w.want(c)
			for size := range len(b) {
				w.notGot(t, "bytes are missing", api.ErrShort, b[:size])
			}
			for _, more := range [][]byte{{0}, {48, 0}, {2, 1, 0}, b} {
				w.notGot(t, "something is left", api.ErrForm, slices.Concat(b, more))
			}
		}
		for _, b := range [][]byte{{0}, {3, 0}, {48, 128}, {48, 131, 0, 0, 0}, {2, 0}, {2, 2, 0, 1}, {1, 1, 1}, {12, 1, 31}, {48, 1, 2}, {130, 0}} {
			w.notGot(t, "no item", api.ErrForm, b)
		}
		for _, b := range [][]byte{{48}, {48, 1}, {48, 129}, {48, 130, 1}, {2}, {12, 5, 'a'}} {
			w.notGot(t, "no whole item", api.ErrShort, b)
		}
		for _, b := range [][]byte{{48, 0}, {1, 1, 255}, {2, 1, 5}, {12, 1, 'a'}, {4, 0}, {48, 2, 48, 0}, {48, 4, 48, 0, 48, 0}, {48, 8, 48, 4, 48, 0, 48, 0, 48, 0}} {
			w.notGot(t, "another item", api.ErrForm, b)
		}
	}
}

// others are items that are changed in one place, each in all ways that make it another kind of item.
func others(x api.Item) []api.Item {
	var l []api.Item
	for _, other := range []api.Item{der.Bool(true), der.Bool(false), der.Int(1), der.Int(-1), der.Text("a"), der.Text(""), der.Oct(nil), der.Oct([]byte("a")), der.Seq(), der.Seq(der.Int(1), der.Int(2)), der.Seq(der.Text("a"))} {
		if other.Tag != x.Tag || x.Tag == api.SeqTag && !der.Same(x, other) {
			l = append(l, other)
		}
	}
	if x.Tag == api.IntTag {
		for _, n := range []int{-1, -128, math.MinInt, math.MaxInt} {
			l = append(l, der.Int(n))
		}
	}
	if x.Tag == api.OctTag {
		return l
	}
	return append(l, der.Oct(x.B), api.Item{Tag: api.SeqTag, L: []api.Item{x}})
}

// within are all items that come of changing one place of an item.
func within(x api.Item) []api.Item {
	l := others(x)
	rebuilt := func(parts []api.Item) { l = append(l, der.Seq(parts...)) }
	for at := range x.L {
		rebuilt(slices.Delete(slices.Clone(x.L), at, at+1))
		rebuilt(slices.Insert(slices.Clone(x.L), at, x.L[at]))
		for _, more := range []api.Item{der.Int(0), der.Text(""), der.Seq()} {
			rebuilt(slices.Insert(slices.Clone(x.L), at, more))
			rebuilt(slices.Insert(slices.Clone(x.L), at+1, more))
		}
		for _, other := range within(x.L[at]) {
			parts := slices.Clone(x.L)
			parts[at] = other
			rebuilt(parts)
		}
		for other := range at {
			parts := slices.Clone(x.L)
			parts[at], parts[other] = parts[other], parts[at]
			rebuilt(parts)
		}
	}
	return l
}

func TestItemsInEachPlace(t *testing.T) {
	for _, w := range ways() {
		for _, c := range []api.Cert{site(), authority()} {
			x, _, e := der.Get(w.want(c), 0)
			if e != api.OK {
				t.Fatalf("the %s of %v are no item", w.name, c)
			}
			for _, other := range within(x) {
				b, e := der.Put(other)
				if e != api.OK {
					t.Fatalf("%v has no bytes", other)
				}
				told, e := w.get(b)
				// Some changes make another certificate: fewer names, or two names in another order.
				if e == api.OK && bytes.Equal(w.want(told), b) && cert.Check(told) == api.OK && same(told, w.said(told)) {
					continue
				}
				if !same(told, api.Cert{}) || e != api.ErrForm {
					t.Errorf("the %s of %v is %v, %d", w.name, b, told, e)
				}
			}
		}
	}
}

func TestEachByte(t *testing.T) {
	for _, w := range ways() {
		for _, c := range []api.Cert{site(), authority()} {
			was := w.want(c)
			for at := range was {
				for x := range 256 {
					b := bytes.Clone(was)
					b[at] = byte(x)
					told, e := w.get(b)
					if e == api.OK && !bytes.Equal(w.want(told), b) || e != api.OK && !same(told, api.Cert{}) {
						t.Errorf("the %s of %v is %v, %d", w.name, b, told, e)
					}
				}
			}
		}
	}
}

// P18.4

func TestUnlikeCertificatesHaveUnlikeBytes(t *testing.T) {
	for _, w := range ways() {
		seen := make(map[string]api.Cert)
		for _, c := range mayBe() {
			b, _ := w.put(c)
			other, there := seen[string(b)]
			if there && !cert.Same(w.said(other), w.said(c)) {
				t.Errorf("%v and %v have the same %s", c, other, w.name)
			}
			seen[string(b)] = c
		}
	}
}

func TestWhatALogIsTold(t *testing.T) {
	for _, c := range []api.Cert{site(), authority()} {
		pre, _ := cert.Pre(c)
		leaf, _ := cert.Leaf(c)
		for _, change := range []func(c *api.Cert){func(c *api.Cert) { c.Sig.E++ }, func(c *api.Cert) { c.Sig.S++ }, func(c *api.Cert) { c.Sig = api.Sig{} }, func(c *api.Cert) { c.Proms = nil }, func(c *api.Cert) { c.Proms = append(c.Proms, promise(900)) }, func(c *api.Cert) { c.Proms[0].Leaf[0]++ }, func(c *api.Cert) { c.Proms[0].Sig.E++ }} {
			other := changed(c, change)
			if b, e := cert.Pre(other); !bytes.Equal(b, pre) || e != api.OK {
				t.Errorf("the pre hangs on promises, or signatures: of %v", other)
			}
			if s, e := cert.Leaf(other); s != leaf || e != api.OK {
				t.Errorf("the leaf hangs on promises, or signatures: of %v", other)
			}
		}
	}
}

// R2, R6

func TestNothingIsChangedOrShared(t *testing.T) {
	for _, c := range []api.Cert{site(), authority()} {
		was := copied(c)
		for _, w := range ways() {
			b, _ := w.put(c)
			if !same(c, was) {
				t.Errorf("what is handed in is changed by the %s", w.name)
			}
			told, _ := w.get(b)
			if !bytes.Equal(b, w.want(was)) {
				t.Errorf("the bytes of the %s are changed", w.name)
			}
			clear(b)
			if !same(told, w.said(was)) {
				t.Errorf("what the %s has told changes with the bytes", w.name)
			}
			b, _ = w.put(c)
			first, _ := w.get(b)
			second, _ := w.get(b)
			clear(first.Names)
			clear(first.Permit)
			clear(first.Proms)
			if !same(second, w.said(was)) {
				t.Errorf("what the %s tells twice is shared", w.name)
			}
		}
		cert.Check(c)
		cert.Leaf(c)
		cert.Same(c, was)
		if !same(c, was) {
			t.Error("what is handed in is changed")
		}
	}
}

// The chapter's example

func TestExample(t *testing.T) {
	c := api.Cert{Serial: 1, Issuer: "greatseal", Key: 4, Names: []string{"x.a"}, From: 0, Until: 9}
	for _, w := range ways() {
		b, e := w.put(c)
		if e != api.OK {
			t.Fatalf("the %s tells %d", w.name, e)
		}
		w.got(t, c, b)
	}
	c.Proms = []api.Promise{{Log: 0}, {Log: 0, At: 1}}
	checked(t, api.ErrArg, c)
}
