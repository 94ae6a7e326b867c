package grant_test

import (
	"fmt"
	"math/rand"
	"slices"
	"strings"
	"testing"

	"signet/api"
	"signet/grant"
)

var both = []string{"r", "w"}

// changed answers a family, but for what is changed.
func changed(f api.Family, change func(f *api.Family)) api.Family {
	f = familyCopy(f)
	change(&f)
	return f
}

// revoked answers a family that is revoked.
func revoked(f api.Family) api.Family {
	return changed(f, func(f *api.Family) { f.Revoked = true })
}

// access and refresh are tokens; used is a refresh token that was used.
func access(set ...string) api.Issued  { return api.Issued{Kind: 2, Scope: set} }
func refresh(set ...string) api.Issued { return api.Issued{Kind: 3, Scope: set} }
func used(set ...string) api.Issued    { return api.Issued{Kind: 3, Scope: set, Used: true} }

// other is a family that no command of f1 changes.
func other(id string) api.Family {
	return api.Family{Id: id, Client: "a", User: "u", Scope: both, Code: 2, Tokens: []api.Issued{access("r", "w"), refresh("r", "w")}, Leases: []int{2}}
}

// TestExample is the chapter's first.
func TestExample(t *testing.T) {
	p := newPair(t, 256)
	steps := []struct {
		c    api.Command
		want api.Answer
	}{
		{api.Command{Kind: 1, Family: "f1", Client: "a", User: "u", Scope: []string{"r"}}, api.Answer{Scope: []string{"r"}}},
		{api.Command{Kind: 2, Family: "f1", Client: "a", Refresh: true}, api.Answer{Access: 1, Refresh: 2, Scope: []string{"r"}}},
		{api.Command{Kind: 6, Family: "f1", Serial: 1, Token: 2, Edge: 3}, api.Answer{Active: true, Scope: []string{"r"}, Client: "a", User: "u"}},
		{api.Command{Kind: 2, Family: "f1", Client: "a", Refresh: true}, api.Answer{Why: 3}},
		{api.Command{Kind: 6, Family: "f1", Serial: 1, Token: 2, Edge: 4}, api.Answer{}},
		{api.Command{Kind: 7, Family: "f1"}, api.Answer{}},
	}
	f := api.Family{Id: "f1", Client: "a", User: "u", Scope: []string{"r"}, Code: 1}
	behind := []func(){
		func() {},
		func() { f.Code, f.Tokens = 2, []api.Issued{access("r"), refresh("r")} },
		func() { f.Leases = []int{3} },
		func() { f.Revoked = true },
		func() {},
	}
	for k, x := range steps {
		if got := p.do(x.c); answerText(got) != answerText(x.want) {
			t.Errorf("step %d: %s; want %s", k, answerText(got), answerText(x.want))
		}
		if k < len(behind) {
			behind[k]()
			check(t, p.b, 256, []api.Family{f})
		}
	}
	check(t, p.b, 256, nil)
}

// TestExampleOfRevoke is the chapter's second.
func TestExampleOfRevoke(t *testing.T) {
	p := newPair(t, 1)
	if a := p.do(api.Command{Kind: 4, Family: "f2", Client: "a"}); a.Access != 1 || a.Refresh != 0 || a.Why != 0 {
		t.Error(answerText(a))
	}
	f := api.Family{Id: "f2", Client: "a", Tokens: []api.Issued{access()}}
	check(t, p.b, 1, []api.Family{f})
	if a := p.do(api.Command{Kind: 5, Family: "f2", Client: "b", Serial: 1, Token: 2}); answerText(a) != answerText(api.Answer{}) {
		t.Error(answerText(a))
	}
	check(t, p.b, 1, []api.Family{f})
	if a := p.do(api.Command{Kind: 5, Family: "f2", Client: "a", Serial: 1, Token: 2}); answerText(a) != answerText(api.Answer{Wait: true}) {
		t.Error(answerText(a))
	}
	check(t, p.b, 1, []api.Family{revoked(f)})
}

// TestAuthorize is of P17.1: a family with a code, and why there is none, in the chapter's order.
func TestAuthorize(t *testing.T) {
	full := api.Command{Kind: api.CAuthorize, Family: "f1", Client: "a", User: "u", Scope: both, Redirect: "x", Challenge: digest, Method: "S256"}
	doing(t, 1, nil, full, api.Answer{Scope: both}, openFamily())
	doing(t, 3, []api.Family{other("f0"), other("f2")}, full, api.Answer{Scope: both}, other("f0"), openFamily(), other("f2"))
	plain := full
	plain.Challenge, plain.Method = verifier, "plain"
	doing(t, 1, nil, plain, api.Answer{Scope: both}, changed(openFamily(), func(f *api.Family) { f.Challenge, f.Method = verifier, "plain" }))
	doing(t, 1, nil, api.Command{Kind: 1, Family: "f1", Client: "a"}, api.Answer{}, api.Family{Id: "f1", Client: "a", Code: 1})
	for _, f := range rights() {
		refusing(t, 2, []api.Family{f}, full, api.InvalidRequest)
		refusing(t, 1, []api.Family{f}, full, api.InvalidRequest) // there is no room either
		refusing(t, 2, []api.Family{f, other("f2")}, full, api.InvalidRequest)
		f.Id = "f2"
		refusing(t, 1, []api.Family{f}, full, api.Unavailable)
		refusing(t, 2, []api.Family{f, other("f3")}, full, api.Unavailable)
	}
	wrong := full
	wrong.Client = ""
	refusing(t, 1, []api.Family{openFamily()}, wrong, api.InvalidRequest)
	refusing(t, 1, []api.Family{other("f2")}, wrong, api.InvalidRequest)
}

// TestIssue is of P17.1: a client's own family, and why there is none, in the chapter's order.
func TestIssue(t *testing.T) {
	c := api.Command{Kind: api.CIssue, Family: "f1", Client: "a", Scope: both}
	want := api.Family{Id: "f1", Client: "a", Scope: both, Tokens: []api.Issued{access("r", "w")}}
	doing(t, 1, nil, c, api.Answer{Access: 1, Scope: both}, want)
	doing(t, 3, []api.Family{other("f0"), other("f2")}, c, api.Answer{Access: 1, Scope: both}, other("f0"), want, other("f2"))
	doing(t, 1, nil, api.Command{Kind: 4, Family: "f1", Client: "a"}, api.Answer{Access: 1}, api.Family{Id: "f1", Client: "a", Tokens: []api.Issued{access()}})
	for _, f := range rights() {
		refusing(t, 2, []api.Family{f}, c, api.InvalidRequest)
		refusing(t, 1, []api.Family{f}, c, api.InvalidRequest)
		refusing(t, 2, []api.Family{f, other("f2")}, c, api.InvalidRequest)
		f.Id = "f2"
		refusing(t, 1, []api.Family{f}, c, api.Unavailable)
		refusing(t, 2, []api.Family{f, other("f3")}, c, api.Unavailable)
	}
	wrong := c
	wrong.User = "u"
	refusing(t, 1, []api.Family{ownFamily()}, wrong, api.InvalidRequest)
	refusing(t, 1, []api.Family{other("f2")}, wrong, api.InvalidRequest)
}

// TestRedeem is of P17.1: a code that is redeemed.
func TestRedeem(t *testing.T) {
	c := api.Command{Kind: api.CRedeem, Family: "f1", Client: "a", Redirect: "x", Verifier: verifier}
	f := openFamily()
	one := changed(f, func(f *api.Family) { f.Code, f.Tokens = 2, []api.Issued{access("r", "w")} })
	two := changed(f, func(f *api.Family) { f.Code, f.Tokens = 2, []api.Issued{access("r", "w"), refresh("r", "w")} })
	doing(t, 1, []api.Family{f}, c, api.Answer{Access: 1, Scope: both}, one)
	doing(t, 3, []api.Family{other("f0"), f, other("f2")}, c, api.Answer{Access: 1, Scope: both}, other("f0"), one, other("f2"))
	c.Refresh = true
	doing(t, 1, []api.Family{f}, c, api.Answer{Access: 1, Refresh: 2, Scope: both}, two)
	doing(t, 3, []api.Family{other("f0"), f, other("f2")}, c, api.Answer{Access: 1, Refresh: 2, Scope: both}, other("f0"), two, other("f2"))
	// For nothing, and with leases that it came with.
	bare := api.Family{Id: "f1", Client: "a", Code: 1, Leases: []int{4}}
	doing(t, 1, []api.Family{bare}, api.Command{Kind: 2, Family: "f1", Client: "a", Refresh: true}, api.Answer{Access: 1, Refresh: 2}, api.Family{Id: "f1", Client: "a", Code: 2, Leases: []int{4}, Tokens: []api.Issued{access(), refresh()}})
	// By each method, and by a challenge that is the verifier itself.
	for _, by := range []string{verifier, strings.Repeat("~", 43), strings.Repeat("a", 128)} {
		f := changed(f, func(f *api.Family) { f.Challenge, f.Method = by, "plain" })
		d := c
		d.Verifier = by
		doing(t, 1, []api.Family{f}, d, api.Answer{Access: 1, Refresh: 2, Scope: both}, changed(f, func(f *api.Family) { f.Code, f.Tokens = 2, two.Tokens }))
	}
}

// TestRedeemRefused is of P17.1 and P17.3: why a code isn't redeemed, in the chapter's order: which it is shows by whether the family is revoked.
func TestRedeemRefused(t *testing.T) {
	c := api.Command{Kind: api.CRedeem, Family: "f1", Client: "a", Redirect: "x", Verifier: verifier, Refresh: true}
	var near []api.Command // that are right, but for one thing
	for _, uri := range []string{"", "y", "x/", "X", "xx", strings.Repeat("x", 128), "\x00"} {
		d := c
		d.Redirect = uri
		near = append(near, d)
	}
	for _, by := range []string{"", "short", verifier + "a", verifier[:42], strings.ToUpper(verifier), digest, strings.Repeat("a", 43), " " + verifier} {
		d := c
		d.Verifier = by
		near = append(near, d)
	}
	one := c
	one.Redirect, one.Verifier = "", ""
	near = append(near, one)
	another := c
	another.Client = "b"
	spent := usedFamily()
	good := []api.Command{c, changedCommand(c, func(c *api.Command) { c.Refresh = false })}
	// There is no such family, or it is revoked, or another client's, or has no code: nothing changes.
	for _, d := range append(append(near, good...), another) {
		refusing(t, 2, nil, d, api.InvalidGrant)
		refusing(t, 2, []api.Family{changed(openFamily(), func(f *api.Family) { f.Id = "f2" })}, d, api.InvalidGrant)
		refusing(t, 2, []api.Family{revoked(openFamily())}, d, api.InvalidGrant)
		refusing(t, 2, []api.Family{revokedFamily()}, d, api.InvalidGrant)
		refusing(t, 2, []api.Family{ownFamily()}, d, api.InvalidGrant)
		refusing(t, 2, []api.Family{revoked(ownFamily())}, d, api.InvalidGrant)
		d.Client = "b"
		refusing(t, 2, []api.Family{openFamily()}, d, api.InvalidGrant)
		refusing(t, 2, []api.Family{spent}, d, api.InvalidGrant)
		refusing(t, 2, []api.Family{revokedFamily()}, d, api.InvalidGrant)
		refusing(t, 2, []api.Family{ownFamily()}, d, api.InvalidGrant)
	}
	// The code was redeemed: the family is revoked, whatever else is asked.
	for _, d := range append(near, good...) {
		doing(t, 2, []api.Family{spent}, d, api.Answer{Why: 3}, revokedFamily())
		doing(t, 3, []api.Family{other("f0"), spent, other("f2")}, d, api.Answer{Why: 3}, other("f0"), revokedFamily(), other("f2"))
	}
	// The Redirect is another one, or the challenge isn't the verifier's: nothing changes, and the code may be redeemed still.
	for _, d := range near {
		refusing(t, 2, []api.Family{openFamily()}, d, api.InvalidGrant)
		p := pairOf(t, 2, openFamily())
		p.do(d)
		if a := p.do(c); a.Why != api.WhyNone || a.Access != 1 || a.Refresh != 2 {
			t.Errorf("behind %s: %s", commandText(d), answerText(a))
		}
	}
	plain := changed(openFamily(), func(f *api.Family) { f.Challenge, f.Method = verifier, "plain" })
	for _, by := range []string{"", digest, verifier + "a", verifier[:42], strings.ToUpper(verifier), "x"} {
		refusing(t, 2, []api.Family{plain}, changedCommand(c, func(c *api.Command) { c.Verifier = by }), api.InvalidGrant)
	}
	none := changed(openFamily(), func(f *api.Family) { f.Challenge, f.Method = "", "" })
	for _, by := range []string{verifier, digest, "x", " ", "\x00"} {
		refusing(t, 2, []api.Family{none}, changedCommand(c, func(c *api.Command) { c.Verifier = by }), api.InvalidGrant)
	}
	doing(t, 2, []api.Family{none}, changedCommand(c, func(c *api.Command) { c.Verifier = "" }), api.Answer{Access: 1, Refresh: 2, Scope: both}, changed(none, func(f *api.Family) {
		f.Code, f.Tokens = 2, []api.Issued{access("r", "w"), refresh("r", "w")}
	}))
	wrong := changedCommand(c, func(c *api.Command) { c.Verifier = strings.Repeat("a", 129) })
	refusing(t, 2, []api.Family{spent}, wrong, api.InvalidRequest)
}

// changedCommand answers a command, but for what is changed.
func changedCommand(c api.Command, change func(c *api.Command)) api.Command {
	change(&c)
	return c
}

// TestTwice is of P17.3: a code is redeemed once; asked for twice by its client all that came of it is revoked, by another one nothing is, and behind its revocation nothing changes any more.
func TestTwice(t *testing.T) {
	begin := func() *pair {
		p := pairOf(t, 2, openFamily(), other("f2"))
		p.do(api.Command{Kind: api.CRedeem, Family: "f1", Client: "a", Redirect: "x", Verifier: verifier, Refresh: true})
		p.do(api.Command{Kind: api.CRefresh, Family: "f1", Client: "a", Serial: 2})
		return p
	}
	active := func(p *pair, family string, want bool) {
		t.Helper()
		for serial := 1; serial <= 4; serial++ {
			for token := 2; token <= 3; token++ {
				f, _ := p.b.Family(family)
				is := serial <= len(f.Tokens) && f.Tokens[serial-1].Kind == token && !f.Tokens[serial-1].Used && want
				if a := p.do(api.Command{Kind: api.CLook, Family: family, Serial: serial, Token: token, Edge: serial}); a.Active != is {
					t.Errorf("the token %d, %d of %s: %s", token, serial, family, answerText(a))
				}
			}
		}
	}
	c := api.Command{Kind: api.CRedeem, Family: "f1", Client: "a", Redirect: "x", Verifier: verifier, Refresh: true}
	p := begin()
	active(p, "f1", true)
	if a := p.do(changedCommand(c, func(c *api.Command) { c.Client = "b" })); a.Why != 3 {
		t.Error(answerText(a))
	}
	active(p, "f1", true)
	if a := p.do(c); a.Why != 3 || len(p.b.Pending()) != 1 {
		t.Error(answerText(a))
	}
	active(p, "f1", false)
	active(p, "f2", true)
	for range 3 {
		for _, c := range append(commands(), c) {
			if c.Kind != api.CDone {
				p.do(c)
				active(p, "f1", false)
			}
		}
	}
	active(p, "f2", true)
	// Once it is gone, its Id may be a new family's.
	p.do(api.Command{Kind: api.CDone, Family: "f1"})
	if a := p.do(c); a.Why != 3 {
		t.Error(answerText(a))
	}
	p.do(api.Command{Kind: api.CAuthorize, Family: "f1", Client: "b", Scope: []string{"w"}})
	active(p, "f1", false)
	if a := p.do(api.Command{Kind: api.CRedeem, Family: "f1", Client: "b"}); a.Access != 1 || a.Refresh != 0 {
		t.Error(answerText(a))
	}
	active(p, "f1", true)
	check(t, p.b, 2, []api.Family{{Id: "f1", Client: "b", Scope: []string{"w"}, Code: 2, Tokens: []api.Issued{access("w")}, Leases: []int{1}}, changed(other("f2"), func(f *api.Family) { f.Leases = []int{1, 2} })})
}

// TestRefresh is of P17.1: a refresh token that is used once, for a scope that is empty, or within the family's.
func TestRefresh(t *testing.T) {
	all := []string{"r", "w", "x"}
	f := api.Family{Id: "f1", Client: "a", User: "u", Scope: all, Code: 2, Tokens: []api.Issued{access("r"), refresh(all...)}, Leases: []int{5}}
	for _, set := range [][]string{nil, {}, {"r"}, {"w"}, {"x"}, {"r", "w"}, {"r", "x"}, {"w", "x"}, {"r", "w", "x"}} {
		given := set
		if len(set) == 0 {
			given = all
		}
		want := changed(f, func(f *api.Family) {
			f.Tokens = []api.Issued{access("r"), used(all...), access(given...), refresh(all...)}
		})
		c := api.Command{Kind: api.CRefresh, Family: "f1", Client: "a", Serial: 2, Scope: set}
		doing(t, 1, []api.Family{f}, c, api.Answer{Access: 3, Refresh: 4, Scope: given}, want)
		doing(t, 3, []api.Family{other("f0"), f, other("f2")}, c, api.Answer{Access: 3, Refresh: 4, Scope: given}, other("f0"), want, other("f2"))
	}
	// The scope of another token, and a refresh token that stands elsewhere, don't count: the family's does.
	own := api.Family{Id: "f1", Client: "a", Scope: all, Tokens: []api.Issued{refresh(all...), access(), access("w"), used(all...), refresh(all...)}}
	for _, serial := range []int{1, 5} {
		want := changed(own, func(f *api.Family) {
			f.Tokens[serial-1].Used = true
			f.Tokens = append(f.Tokens, access("r", "x"), refresh(all...))
		})
		doing(t, 1, []api.Family{own}, api.Command{Kind: api.CRefresh, Family: "f1", Client: "a", Serial: serial, Scope: []string{"r", "x"}}, api.Answer{Access: 6, Refresh: 7, Scope: []string{"r", "x"}}, want)
	}
	// Of a family for nothing.
	none := api.Family{Id: "f1", Client: "a", Code: 2, Tokens: []api.Issued{access(), refresh()}}
	doing(t, 1, []api.Family{none}, api.Command{Kind: api.CRefresh, Family: "f1", Client: "a", Serial: 2}, api.Answer{Access: 3, Refresh: 4}, changed(none, func(f *api.Family) { f.Tokens = []api.Issued{access(), used(), access(), refresh()} }))
}

// TestRefreshRefused is of P17.1 and P17.3: why a refresh token isn't used, in the chapter's order.
func TestRefreshRefused(t *testing.T) {
	c := api.Command{Kind: api.CRefresh, Family: "f1", Client: "a", Serial: 4, Scope: []string{"r"}}
	beyond := [][]string{{"x"}, {"r", "x"}, {"r", "w", "x"}, {"R"}, {"rw"}}
	scopes := append([][]string{nil, {"r"}, {"w"}, {"r", "w"}}, beyond...)
	filled := changed(usedFamily(), func(f *api.Family) {
		f.Tokens = append(f.Tokens, access("w"), access("r"), access(), access("r", "w"))
	}) // eight tokens
	for _, set := range scopes {
		d := changedCommand(c, func(c *api.Command) { c.Scope = set })
		// There is no such family, or it is revoked, or another client's: nothing changes.
		refusing(t, 2, nil, d, api.InvalidGrant)
		refusing(t, 2, []api.Family{other("f2")}, d, api.InvalidGrant)
		for _, f := range []api.Family{usedFamily(), filled} {
			refusing(t, 2, []api.Family{revoked(f)}, d, api.InvalidGrant)
			for serial := range 10 {
				refusing(t, 2, []api.Family{f}, changedCommand(d, func(c *api.Command) { c.Client, c.Serial = "b", serial }), api.InvalidGrant)
				refusing(t, 2, []api.Family{revoked(f)}, changedCommand(d, func(c *api.Command) { c.Serial = serial }), api.InvalidGrant)
			}
			// It has no refresh token of that serial.
			for _, serial := range []int{0, 1, 3, 5, 6, 7, 8, 9, 10, 256 + 4, 1<<32 + 4, maxSerial} {
				refusing(t, 2, []api.Family{f}, changedCommand(d, func(c *api.Command) { c.Serial = serial }), api.InvalidGrant)
			}
			// That is used: the family is revoked, whatever else is asked.
			twice := changedCommand(d, func(c *api.Command) { c.Serial = 2 })
			doing(t, 2, []api.Family{f}, twice, api.Answer{Why: 3}, revoked(f))
			doing(t, 3, []api.Family{other("f0"), f, other("f2")}, twice, api.Answer{Why: 3}, other("f0"), revoked(f), other("f2"))
		}
		for _, f := range []api.Family{openFamily(), ownFamily()} {
			for _, serial := range []int{0, 1, 2, 4} {
				refusing(t, 2, []api.Family{f}, changedCommand(d, func(c *api.Command) { c.Serial = serial }), api.InvalidGrant)
			}
		}
	}
	// The scope is beyond the family's, be there room for tokens or not.
	for _, set := range beyond {
		d := changedCommand(c, func(c *api.Command) { c.Scope = set })
		refusing(t, 2, []api.Family{usedFamily()}, d, api.InvalidScope)
		refusing(t, 2, []api.Family{filled}, d, api.InvalidScope)
		narrow := api.Family{Id: "f1", Client: "a", Code: 2, Tokens: []api.Issued{access(), access(), access(), refresh()}}
		refusing(t, 2, []api.Family{narrow}, d, api.InvalidScope)
	}
	refusing(t, 2, []api.Family{filled}, c, api.Unavailable)
	refusing(t, 2, []api.Family{filled}, changedCommand(c, func(c *api.Command) { c.Scope = nil }), api.Unavailable)
	wrong := changedCommand(c, func(c *api.Command) { c.Serial, c.Token = 2, 3 })
	refusing(t, 2, []api.Family{filled}, wrong, api.InvalidRequest)
}

// TestTokens is of P17.1: a family with so many tokens, from one to all that it may have: two more are issued, if there is room for both.
func TestTokens(t *testing.T) {
	for count := 1; count <= maxIssued; count++ {
		for at := range count {
			f := api.Family{Id: "f1", Client: "a", Scope: both, Code: 2}
			for range count {
				f.Tokens = append(f.Tokens, access("w"))
			}
			f.Tokens[at] = refresh(both...)
			c := api.Command{Kind: api.CRefresh, Family: "f1", Client: "a", Serial: at + 1, Scope: []string{"r"}}
			if count >= 7 {
				refusing(t, 1, []api.Family{f}, c, api.Unavailable)
				continue
			}
			want := changed(f, func(f *api.Family) {
				f.Tokens[at].Used = true
				f.Tokens = append(f.Tokens, access("r"), refresh(both...))
			})
			doing(t, 1, []api.Family{f}, c, api.Answer{Access: count + 1, Refresh: count + 2, Scope: []string{"r"}}, want)
		}
	}
	// From the code on, one behind the other.
	p := newPair(t, 1)
	p.do(api.Command{Kind: api.CAuthorize, Family: "f1", Client: "a", Scope: both})
	p.do(api.Command{Kind: api.CRedeem, Family: "f1", Client: "a", Refresh: true})
	for serial := 2; serial <= 6; serial += 2 {
		if a := p.do(api.Command{Kind: api.CRefresh, Family: "f1", Client: "a", Serial: serial}); a.Access != serial+1 || a.Refresh != serial+2 {
			t.Error(serial, answerText(a))
		}
	}
	for range 2 {
		if a := p.do(api.Command{Kind: api.CRefresh, Family: "f1", Client: "a", Serial: 8}); a.Why != api.Unavailable {
			t.Error(answerText(a))
		}
		if a := p.do(api.Command{Kind: api.CLook, Family: "f1", Token: api.KRefresh, Serial: 8}); !a.Active {
			t.Error(answerText(a))
		}
	}
	if a := p.do(api.Command{Kind: api.CRefresh, Family: "f1", Client: "a", Serial: 6}); a.Why != api.InvalidGrant || len(p.b.Pending()) != 1 {
		t.Error(answerText(a))
	}
}

// TestRevoke is of P17.1: a revocation of each token by its client, by another one, and once more.
func TestRevoke(t *testing.T) {
	rest := []api.Family{other("f0"), other("f2")}
	for _, f := range rights() {
		f.Revoked = false
		all := append([]api.Family{f}, rest...)
		gone := append([]api.Family{revoked(f)}, rest...)
		for token := 1; token <= 3; token++ {
			for _, serial := range []int{0, 1, 2, 3, 4, 5, 8, 9, 256, 257, 1 << 32, 1<<32 + 1, maxSerial} {
				c := api.Command{Kind: api.CRevoke, Family: "f1", Client: "a", Serial: serial, Token: token}
				is := serial >= 1 && serial <= len(f.Tokens) && f.Tokens[serial-1].Kind == token || serial == 0 && token == 1 && f.Code != 0
				if is {
					doing(t, 3, all, c, api.Answer{Wait: true}, gone...)
				} else {
					doing(t, 3, all, c, api.Answer{}, all...)
				}
				doing(t, 3, gone, c, api.Answer{Wait: true}, gone...)
				doing(t, 3, rest, c, api.Answer{}, rest...)
				c.Client = "b"
				doing(t, 3, all, c, api.Answer{}, all...)
				doing(t, 3, gone, c, api.Answer{}, gone...)
				c.Client = "A"
				doing(t, 3, gone, c, api.Answer{}, gone...)
			}
		}
	}
}

// TestRevokeTwice is of P17.1: who revokes a token once more, or another one of the family, has to wait, too, until it is done.
func TestRevokeTwice(t *testing.T) {
	p := pairOf(t, 1, usedFamily())
	c := api.Command{Kind: api.CRevoke, Family: "f1", Client: "a", Serial: 1, Token: api.KAccess}
	asked := func(want bool) {
		t.Helper()
		for serial := range 6 {
			for token := 1; token <= 3; token++ {
				a := p.do(changedCommand(c, func(c *api.Command) { c.Serial, c.Token = serial, token }))
				if answerText(a) != answerText(api.Answer{Wait: want}) {
					t.Errorf("of the token %d, %d: %s", token, serial, answerText(a))
				}
			}
		}
	}
	if a := p.do(changedCommand(c, func(c *api.Command) { c.Client = "b" })); a.Wait {
		t.Error(answerText(a))
	}
	for range 2 {
		if a := p.do(c); !a.Wait {
			t.Error(answerText(a))
		}
	}
	asked(true)
	if a := p.do(changedCommand(c, func(c *api.Command) { c.Client = "b" })); a.Wait {
		t.Error(answerText(a))
	}
	p.do(api.Command{Kind: api.CDone, Family: "f1"})
	asked(false)
}

// TestLook is of P17.1 and P17.3: each kind of token that is asked for, so that the edge is told once among the Leases, which rise.
func TestLook(t *testing.T) {
	f := usedFamily() // 1: access for r and w, 2: refresh, used, 3: access for w, 4: refresh
	f.Leases = nil
	scopes := map[int][]string{1: both, 3: {"w"}, 4: both}
	kinds := map[int]int{1: 2, 3: 2, 4: 3}
	for token := 1; token <= 3; token++ {
		for _, serial := range []int{0, 1, 2, 3, 4, 5, 6, 256, 257, 1 << 32, 1<<32 + 1, maxSerial} {
			for _, edge := range []int{0, 1, 30, 31} {
				c := api.Command{Kind: api.CLook, Family: "f1", Serial: serial, Token: token, Edge: edge}
				want, behind := api.Answer{}, f
				if kinds[serial] == token && serial != 0 {
					want = api.Answer{Active: true, Scope: scopes[serial], Client: "a", User: "u"}
					behind = changed(f, func(f *api.Family) { f.Leases = []int{edge} })
				}
				doing(t, 2, []api.Family{f}, c, want, behind)
				doing(t, 3, []api.Family{other("f0"), f, other("f2")}, c, want, other("f0"), behind, other("f2"))
				doing(t, 2, []api.Family{revoked(f)}, c, api.Answer{}, revoked(f))
				doing(t, 2, []api.Family{openFamily()}, c, api.Answer{}, openFamily())
				doing(t, 2, []api.Family{other("f2")}, c, api.Answer{}, other("f2"))
				doing(t, 2, nil, c, api.Answer{})
			}
		}
	}
	// A client's own has no user, and may be for nothing.
	own := api.Family{Id: "f1", Client: "a", Tokens: []api.Issued{access()}}
	doing(t, 1, []api.Family{own}, api.Command{Kind: api.CLook, Family: "f1", Serial: 1, Token: 2}, api.Answer{Active: true, Client: "a"}, changed(own, func(f *api.Family) { f.Leases = []int{0} }))
}

// TestLeases is of P17.1 and P17.3: edges that look, in any order, again and again.
func TestLeases(t *testing.T) {
	chance := rand.New(rand.NewSource(17))
	for range 30 {
		p := pairOf(t, 1, changed(usedFamily(), func(f *api.Family) { f.Leases = nil }))
		known := map[int]bool{}
		for _, edge := range append(chance.Perm(32), chance.Perm(32)...) {
			known[edge] = true
			serial := 1 + 2*chance.Intn(2)
			if a := p.do(api.Command{Kind: api.CLook, Family: "f1", Serial: serial, Token: 2, Edge: edge}); !a.Active {
				t.Error(answerText(a))
			}
			var want []int
			for n := range 32 {
				if known[n] {
					want = append(want, n)
				}
			}
			if f, _ := p.b.Family("f1"); !slices.Equal(f.Leases, want) {
				t.Errorf("the leases are %d; want %d", f.Leases, want)
			}
		}
	}
}

// TestDone is of P17.1: a family that isn't there, isn't revoked, is.
func TestDone(t *testing.T) {
	c := api.Command{Kind: api.CDone, Family: "f1"}
	rest := []api.Family{other("f0"), revoked(other("f2"))}
	doing(t, 1, nil, c, api.Answer{})
	doing(t, 2, rest, c, api.Answer{}, rest...)
	for _, f := range rights() {
		f.Revoked = false
		doing(t, 1, []api.Family{f}, c, api.Answer{}, f)
		doing(t, 3, append(slices.Clone(rest), f), c, api.Answer{}, append(slices.Clone(rest), f)...)
		f.Revoked = true
		doing(t, 1, []api.Family{f}, c, api.Answer{})
		doing(t, 3, append(slices.Clone(rest), f), c, api.Answer{}, rest...)
	}
	// There is room again behind it.
	p := pairOf(t, 1, revokedFamily())
	issue := api.Command{Kind: api.CIssue, Family: "f2", Client: "a"}
	if a := p.do(issue); a.Why != api.Unavailable {
		t.Error(answerText(a))
	}
	p.do(c)
	if a := p.do(issue); a.Access != 1 {
		t.Error(answerText(a))
	}
}

// TestFull is of P17.1: a book of each room is filled, and refuses; what is there goes on.
func TestFull(t *testing.T) {
	for _, room := range []int{1, 2, 3, 255, 256} {
		b, m := made(t, room), &model{room: room}
		for k := range room + 2 {
			for _, c := range []api.Command{{Kind: 1 + 3*(k%2), Client: "a"}, {Kind: 4 - 3*(k%2), Client: "a"}} {
				c.Family = fmt.Sprint("f", k)
				if got, want := b.Do(c), m.do(c); answerText(got) != answerText(want) || k >= room && got.Why != api.Unavailable {
					t.Errorf("%d of %d: %s; want %s", k, room, answerText(got), answerText(want))
				}
			}
		}
		check(t, b, room, m.list)
		p := &pair{t, b, m}
		p.do(api.Command{Kind: api.CRedeem, Family: "f0", Client: "a", Refresh: true})
		p.do(api.Command{Kind: api.CRefresh, Family: "f0", Client: "a", Serial: 2})
		p.do(api.Command{Kind: api.CLook, Family: "f0", Token: 2, Serial: 3})
		p.do(api.Command{Kind: api.CRevoke, Family: "f0", Client: "a", Token: 1})
		p.do(api.Command{Kind: api.CIssue, Family: "more", Client: "a"})
		p.do(api.Command{Kind: api.CDone, Family: "f0"})
		if a := p.do(api.Command{Kind: api.CIssue, Family: "more", Client: "a"}); a.Access != 1 {
			t.Error(room, answerText(a))
		}
	}
}

// stands are families in all the states that commands can tell apart.
func stands() []api.Family {
	var out []api.Family
	for _, f := range []api.Family{openFamily(), changed(openFamily(), func(f *api.Family) { f.Challenge, f.Method = "", "" }), changed(openFamily(), func(f *api.Family) { f.Challenge, f.Method, f.Redirect = verifier, "plain", "" })} {
		out = append(out, f)
		for count := 1; count <= maxIssued; count++ {
			f.Code = 2
			f.Tokens = append(slices.Clone(f.Tokens), [][]api.Issued{{access("r")}, {refresh(both...)}, {used(both...)}, {access(both...)}}[count%4]...)
			out = append(out, f)
		}
	}
	for count := 1; count <= maxIssued; count++ {
		f := ownFamily()
		f.Tokens = nil
		for k := range count {
			f.Tokens = append(f.Tokens, []api.Issued{refresh(both...), access("w"), used(both...)}[k%3])
		}
		out = append(out, f)
	}
	for _, f := range slices.Clone(out) {
		out = append(out, revoked(f))
	}
	return out
}

// asks are commands of f1 of all that stands can tell apart.
func asks() []api.Command {
	var out []api.Command
	for _, client := range []string{"a", "b"} {
		for _, set := range [][]string{nil, {"r"}, both, {"r", "x"}} {
			out = append(out, api.Command{Kind: 1, Client: client, Scope: set}, api.Command{Kind: 4, Client: client, Scope: set})
			for serial := range 10 {
				out = append(out, api.Command{Kind: 3, Client: client, Scope: set, Serial: serial})
			}
		}
		for _, uri := range []string{"", "x", "y"} {
			for _, by := range []string{"", verifier, digest, "x"} {
				out = append(out, api.Command{Kind: 2, Client: client, Redirect: uri, Verifier: by}, api.Command{Kind: 2, Client: client, Redirect: uri, Verifier: by, Refresh: true})
			}
		}
		for token := 1; token <= 3; token++ {
			for serial := range 10 {
				out = append(out, api.Command{Kind: 5, Client: client, Token: token, Serial: serial})
				if client == "a" {
					out = append(out, api.Command{Kind: 6, Token: token, Serial: serial, Edge: serial})
				}
			}
		}
	}
	out = append(out, api.Command{Kind: 7})
	for k := range out {
		out[k].Family = "f1"
	}
	return out
}

// TestAll is of P17.1 and P17.3: each command of each family, held against the definition; no other family changes by it, and all families that come of it are right.
func TestAll(t *testing.T) {
	for _, f := range append(stands(), api.Family{}) {
		for _, c := range asks() {
			b, m := made(t, 2), &model{room: 2}
			l := []api.Family{f, other("f2")}
			if f.Id == "" {
				l = l[1:]
			}
			for _, one := range l {
				if e := b.Put(one); e != api.OK {
					t.Fatalf("Put(%s): %d", familyText(one), e)
				}
				m.list = append(m.list, familyCopy(one))
			}
			if got, want := b.Do(c), m.do(c); answerText(got) != answerText(want) {
				t.Errorf("of %s, Do(%s): %s; want %s", familyText(f), commandText(c), answerText(got), answerText(want))
			}
			if got, want := familiesText(b.Families()), familiesText(sorted(m.list)); got != want {
				t.Errorf("of %s, behind Do(%s):\n%s\nwant\n%s", familyText(f), commandText(c), got, want)
			}
			for _, one := range b.Families() {
				if !grant.Right(one) || one.Id == "f2" && familyText(one) != familyText(other("f2")) {
					t.Errorf("of %s, behind Do(%s): %s", familyText(f), commandText(c), familyText(one))
				}
			}
		}
	}
}
