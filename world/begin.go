package world

import (
	"slices"

	"greatseal/api"
	"greatseal/cert"
	"greatseal/client"
	"greatseal/logd"
	"greatseal/order"
	"greatseal/policy"
	"greatseal/quorum"
	"greatseal/sign"
	"greatseal/signer"
	"greatseal/zone"
)

const (
	// What a text may have: bytes that are seen.
	leastByte = 33
	mostByte  = 126

	rootDepth = 2
	logDelay  = 20
	views     = 2
)

// begun is a new world, unless something that it needs can't be made.
func begun(seed []byte, t, n, seen, need int, rules []api.Rule, clients []string) api.World {
	crew, shares, e := quorum.Deal(seed, t, n)
	must(e)
	w := api.World{Net: net(seen), Caches: make([]api.Cache, seen), Need: need, Front: order.New(), Policy: got(policy.Compile(rules)), Crew: crew}
	for _, s := range shares {
		w.Signers = append(w.Signers, got(signer.New(s)))
	}
	for id := range logs {
		w.Logs = append(w.Logs, got(logd.New(id, slices.Concat(seed, []byte{byte(id)}), logDelay)))
	}
	w.Root = root(seed, crew)
	for at, who := range clients {
		// They are shown both views in turn.
		w.Clients = append(w.Clients, got(client.New(who, []api.Cert{w.Root}, Keys(w), at%views)))
	}
	return w
}

func net(seen int) api.Net {
	top := func() []api.Zone { return []api.Zone{got(zone.New(""))} }
	return api.Net{Servers: []api.Server{{Addr: rootServer, Zones: top()}, {Addr: namesServer}, {Addr: falseServer, Zones: top()}}, Seen: seen}
}

func root(seed []byte, crew api.Crew) api.Cert {
	c := api.Cert{Issuer: authority, Subject: authority, Key: crew.Key, Until: api.MaxTime, Ca: true, Depth: rootDepth}
	c.Sig = got(sign.Sign(sign.Secret(seed), got(cert.Body(c))))
	return c
}

func isText(s string) bool {
	for k := range len(s) {
		if s[k] < leastByte || s[k] > mostByte {
			return false
		}
	}
	return len(s) >= 1 && len(s) <= api.MaxText
}

// areTexts tells whether clients may be called so.
func areTexts(l []string) bool {
	for at, s := range l {
		if !isText(s) || slices.Contains(l[:at], s) {
			return false
		}
	}
	return len(l) >= leastClient && len(l) <= mostClients
}
