package grant_test

import (
	"fmt"
	"math"
	"math/rand"
	"slices"
	"strings"
	"testing"

	"signet/api"
	"signet/grant"
)

// checkMay holds May against what is said, and against the definition; and that a command which may not be is refused, and changes nothing.
func checkMay(t *testing.T, want bool, c api.Command) {
	t.Helper()
	if mayBe(c) != want {
		t.Fatalf("the test's own word for %s: %v", short(commandText(c)), !want)
	}
	if got := grant.May(c); got != want {
		t.Errorf("May(%s): %v", short(commandText(c)), got)
	}
	if want {
		return
	}
	b, l := made(t, 1), []api.Family{usedFamily()}
	b.Put(l[0])
	if got := b.Do(c); answerText(got) != answerText(api.Answer{Why: api.InvalidRequest}) || familiesText(b.Families()) != familiesText(l) {
		t.Errorf("Do(%s): %s, and there is\n%s", short(commandText(c)), short(answerText(got)), short(familiesText(b.Families())))
	}
}

// openFamily has a code that may be redeemed.
func openFamily() api.Family {
	return api.Family{Id: "f1", Client: "a", User: "u", Scope: []string{"r", "w"}, Redirect: "x", Challenge: digest, Method: "S256", Code: 1}
}

// usedFamily has a code that was redeemed, and a refresh token that was used.
func usedFamily() api.Family {
	f := openFamily()
	f.Code = 2
	f.Tokens = []api.Issued{{Kind: 2, Scope: []string{"r", "w"}}, {Kind: 3, Scope: []string{"r", "w"}, Used: true}, {Kind: 2, Scope: []string{"w"}}, {Kind: 3, Scope: []string{"r", "w"}}}
	f.Leases = []int{0, 3, 31}
	return f
}

func revokedFamily() api.Family {
	f := usedFamily()
	f.Revoked = true
	return f
}

// ownFamily is one of a client for itself.
func ownFamily() api.Family {
	return api.Family{Id: "f1", Client: "a", Scope: []string{"r", "w"}, Tokens: []api.Issued{{Kind: 2, Scope: []string{"r", "w"}}}, Leases: []int{7}}
}

// commands are some that may be, of each kind: with all that it names, and with as little as may be.
func commands() []api.Command {
	return []api.Command{
		{Kind: api.CAuthorize, Family: "f1", Client: "a", User: "u", Scope: []string{"r", "w"}, Redirect: "x", Challenge: digest, Method: "S256"},
		{Kind: api.CAuthorize, Family: "f1", Client: "a", User: "u", Scope: []string{"r", "w"}, Redirect: "x", Challenge: verifier, Method: "plain"},
		{Kind: api.CAuthorize, Family: "f1", Client: "a"},
		{Kind: api.CRedeem, Family: "f1", Client: "a", Redirect: "x", Verifier: verifier, Refresh: true},
		{Kind: api.CRedeem, Family: "f1", Client: "a"},
		{Kind: api.CRefresh, Family: "f1", Client: "a", Serial: 4, Scope: []string{"r"}},
		{Kind: api.CRefresh, Family: "f1", Client: "a"},
		{Kind: api.CIssue, Family: "f1", Client: "a", Scope: []string{"r", "w"}},
		{Kind: api.CIssue, Family: "f1", Client: "a"},
		{Kind: api.CRevoke, Family: "f1", Client: "a", Serial: 1, Token: api.KAccess},
		{Kind: api.CRevoke, Family: "f1", Client: "a", Token: api.KCode},
		{Kind: api.CLook, Family: "f1", Serial: 1, Token: api.KAccess, Edge: 3},
		{Kind: api.CLook, Family: "f1", Token: api.KRefresh},
		{Kind: api.CDone, Family: "f1"},
	}
}

// names tells whether a command's kind names a field.
func names(c api.Command, field string) bool { return slices.Contains(namesOf[c.Kind], field) }

// TestMayKinds is of P17.1: the seven kinds, and what is none.
func TestMayKinds(t *testing.T) {
	for _, c := range commands() {
		checkMay(t, true, c)
		for _, kind := range []int{0, 8, -1, -7, 9, 10, 16, 64, 255, 256, 257, 263, 1 << 16, 1<<32 + 1, 1<<32 + 7, math.MinInt, math.MaxInt, math.MinInt64 + 1} {
			c.Kind = kind
			checkMay(t, false, c)
		}
	}
	checkMay(t, false, api.Command{})
	for kind := range 10 {
		checkMay(t, false, api.Command{Kind: kind})
		checkMay(t, kind == 7, api.Command{Kind: kind, Family: "f"})
		checkMay(t, kind >= 1 && kind <= 4, api.Command{Kind: kind, Family: "f", Client: "a"})
		checkMay(t, kind == 5, api.Command{Kind: kind, Family: "f", Client: "a", Token: 1})
		checkMay(t, kind == 6, api.Command{Kind: kind, Family: "f", Token: 1})
	}
}

// TestMayOtherKind is of P17.1: a command of one kind, by the number of another one.
func TestMayOtherKind(t *testing.T) {
	for _, c := range commands() {
		for kind := range 10 {
			c.Kind = kind
			checkMay(t, mayBe(c), c)
		}
	}
}

// TestMayZero is of P17.1: each field that a kind doesn't name, other than zero.
func TestMayZero(t *testing.T) {
	type filled struct {
		field string
		set   func(c *api.Command)
	}
	var all []filled
	put := func(field string, set func(c *api.Command)) { all = append(all, filled{field, set}) }
	for _, n := range []int{1, -1, 2, 3, 31, 32, 256, 1 << 32, math.MaxInt, math.MinInt} {
		put("Serial", func(c *api.Command) { c.Serial = n })
		put("Token", func(c *api.Command) { c.Token = n })
		put("Edge", func(c *api.Command) { c.Edge = n })
	}
	for _, s := range []string{"a", "\x00", " ", "u", "plain", "S256", digest, verifier, strings.Repeat("a", maxText)} {
		put("Client", func(c *api.Command) { c.Client = s })
		put("User", func(c *api.Command) { c.User = s })
		put("Redirect", func(c *api.Command) { c.Redirect = s })
		put("Challenge", func(c *api.Command) { c.Challenge = s })
		put("Method", func(c *api.Command) { c.Method = s })
		put("Verifier", func(c *api.Command) { c.Verifier = s })
		put("Scope", func(c *api.Command) { c.Scope = []string{s} })
		put("Challenge", func(c *api.Command) { c.Challenge, c.Method = s, "plain" })
		put("Challenge", func(c *api.Command) { c.Challenge, c.Method = s, "S256" })
	}
	put("Scope", func(c *api.Command) { c.Scope = []string{""} })
	put("Scope", func(c *api.Command) { c.Scope = []string{"r", "w"} })
	put("Refresh", func(c *api.Command) { c.Refresh = true })
	for _, c := range commands() {
		for _, x := range all {
			if !names(c, x.field) {
				other := c
				x.set(&other)
				checkMay(t, false, other)
			}
		}
		if len(c.Scope) == 0 {
			c.Scope = []string{}
			checkMay(t, true, c)
			c.Scope = make([]string, 0, 9)
			checkMay(t, true, c)
		}
	}
}

// textFields are those of a command that are texts of any bytes.
var textFields = map[string]func(c *api.Command, s string){
	"Client":   func(c *api.Command, s string) { c.Client = s },
	"User":     func(c *api.Command, s string) { c.User = s },
	"Redirect": func(c *api.Command, s string) { c.Redirect = s },
	"Verifier": func(c *api.Command, s string) { c.Verifier = s },
}

// TestMayTexts is of P17.1: how long a command's texts are, and that they are of any bytes.
func TestMayTexts(t *testing.T) {
	for field, set := range textFields {
		least := 0
		if field == "Client" {
			least = 1
		}
		for _, c := range commands() {
			if !names(c, field) {
				continue
			}
			for _, n := range append(lengths(maxText), 1000, 1<<16, 1<<20) {
				set(&c, strings.Repeat("a", n))
				checkMay(t, n >= least && n <= maxText, c)
			}
			for b := range 256 {
				s := string([]byte{byte(b)})
				for _, text := range []string{s, s + "a", "a" + s, strings.Repeat(s, maxText)} {
					set(&c, text)
					checkMay(t, true, c)
				}
				set(&c, strings.Repeat(s, maxText+1))
				checkMay(t, false, c)
			}
			// A text's runes don't count.
			for n := range 70 {
				set(&c, strings.Repeat("\u00e9", n))
				checkMay(t, 2*n >= least && 2*n <= maxText, c)
			}
		}
	}
}

// lengths are all to beyond a bound.
func lengths(most int) []int {
	var out []int
	for n := range most + 3 {
		out = append(out, n)
	}
	return append(out, 255, 256, 257, 256+most, 1<<8+1)
}

// families are texts, and whether each may be a right token's family.
func families() map[string]bool {
	out := map[string]bool{"": false}
	for _, n := range append(lengths(maxId), 1<<10, 1<<16, 1<<16+1, 1<<20) {
		for _, sign := range []string{"f", "-", "_", "0", "Z"} {
			out[strings.Repeat(sign, n)] = n >= 1 && n <= maxId
		}
	}
	for b := range 256 {
		c, s := byte(b), string([]byte{byte(b)})
		may := c >= '0' && c <= '9' || c >= 'A' && c <= 'Z' || c >= 'a' && c <= 'z' || c == '-' || c == '_'
		for _, text := range []string{s, s + "f", "f" + s, "f" + s + "f", strings.Repeat("f", maxId-1) + s, s + strings.Repeat("f", maxId-1), strings.Repeat(s, maxId)} {
			out[text] = may
		}
		out[strings.Repeat("f", maxId)+s], out[s+strings.Repeat("f", maxId)] = false, false
	}
	for _, s := range []string{"\u00e9", "f\u00e9", "\xc3", "\xff", "f.1", ".", "f1.", "f 1", " f1", "f1 ", "f1\n", "f1\x00", "f/1", "f+1", "f=", "\ufffd"} {
		out[s] = false
	}
	return out
}

// TestMayFamilies is of P17.1: of which families a command may be.
func TestMayFamilies(t *testing.T) {
	for s, may := range families() {
		for _, c := range commands() {
			c.Family = s
			checkMay(t, may, c)
		}
	}
}

// words answers so many words of one length, rising.
func words(count, length int) []string {
	var out []string
	for k := range count {
		out = append(out, strings.Repeat("a", length-1)+string([]byte{byte('^' + k)}))
	}
	return out
}

// scopes are lists, and whether each is a fit scope.
func scopes() []struct {
	l   []string
	fit bool
} {
	var out []struct {
		l   []string
		fit bool
	}
	put := func(fit bool, l ...string) {
		out = append(out, struct {
			l   []string
			fit bool
		}{slices.Clone(l), fit})
	}
	put(true)
	put(true, []string{}...)
	// Of one byte each: only their number bounds them.
	for count := range 37 {
		put(count <= maxScopes, strings.Split("0123456789ABCDEFGHIJKLMNOPQRSTUVWXYZ", "")[:count]...)
	}
	for n := 1; n <= 64; n++ {
		put(true, strings.Repeat("a", n))
		put(n+1+63 <= maxScopeText, strings.Repeat("a", n), strings.Repeat("b", 63))
		put(n+1+64 <= maxScopeText, strings.Repeat("a", n), strings.Repeat("b", 64))
		put(n+1+62+2 <= maxScopeText, strings.Repeat("a", n), strings.Repeat("b", 62), "c")
		put(n+1+62+3 <= maxScopeText, strings.Repeat("a", n), strings.Repeat("b", 62), "cc")
	}
	put(true, strings.Repeat("a", 63), strings.Repeat("b", 64))  // 128 bytes
	put(false, strings.Repeat("a", 64), strings.Repeat("b", 64)) // 129
	near := words(maxScopes, 3)
	put(true, near...) // 127 bytes
	near[maxScopes-1] += "a"
	put(true, near...) // 128
	near[maxScopes-2] += "a"
	put(false, near...) // 129
	put(false, strings.Repeat("a", 65))
	put(false, "a", "a")
	put(false, "b", "a")
	put(false, "a", "b", "b")
	put(false, "a", "c", "b")
	put(false, "b", "a", "c")
	put(false, "")
	put(false, "", "a")
	put(false, "a", "")
	put(false, "a b")
	put(false, "a ", "b")
	put(true, "A", "a")
	put(false, "a", "A")
	put(true, "a", "aa", "b")
	put(false, "aa", "a")
	for b := range 256 {
		c, s := byte(b), string([]byte{byte(b)})
		is := c == 33 || c >= 35 && c <= 91 || c >= 93 && c <= 126
		put(is, s)
		put(is, "a"+s)
		put(is, s+"a")
		put(is && c != '~', s, "~")
		put(is && c != '!', "!", s)
	}
	for _, s := range []string{"\u00e9", "a\u00e9", "\xff", "a\n", "\u2028", "a\x00"} {
		put(false, s)
		put(false, "a", s)
	}
	put(false, make([]string, maxScopes)...)
	put(false, make([]string, 1<<16)...)
	put(false, words(20, 100)...)
	return out
}

// TestMayScopes is of P17.1: which scopes are fit.
func TestMayScopes(t *testing.T) {
	for _, x := range scopes() {
		if isFit(x.l) != x.fit {
			t.Fatalf("the test's own word for %s: %v", short(fmt.Sprintf("%q", x.l)), !x.fit)
		}
		for _, c := range commands() {
			if names(c, "Scope") {
				c.Scope = x.l
				checkMay(t, x.fit, c)
			}
		}
	}
}

// TestMayNumbers is of P17.1: serials, kinds of a token, edges.
func TestMayNumbers(t *testing.T) {
	for _, c := range commands() {
		for _, n := range []int{-1 << 40, -1<<40 - 1, -2, -1, 0, 1, 2, 3, 8, 9, 255, 256, 1 << 16, 1<<31 - 1, 1 << 31, 1 << 32, maxSerial - 2, maxSerial - 1, maxSerial, maxSerial + 1, maxSerial + 2, 1 << 41, 1<<41 + 1, math.MaxInt - 1, math.MaxInt, math.MinInt, math.MinInt + 1} {
			other := c
			other.Serial = n
			checkMay(t, n == 0 || n > 0 && n <= maxSerial && names(c, "Serial"), other)
		}
		for _, n := range []int{-257, -256, -255, -3, -2, -1, 0, 1, 2, 3, 4, 5, 6, 7, 8, 255, 256, 257, 258, 259, 260, 1<<32 + 1, 1<<32 + 2, math.MaxInt, math.MinInt, math.MinInt + 1} {
			other := c
			other.Token = n
			checkMay(t, (n >= 1 && n <= 3) == names(c, "Token") && n >= 0 && n <= 3, other)
		}
		for _, n := range []int{-256, -32, -31, -2, -1, 0, 1, 2, 15, 30, 31, 32, 33, 63, 64, 255, 256, 257, 1 << 32, 1<<32 + 1, math.MaxInt, math.MinInt, math.MinInt + 1} {
			other := c
			other.Edge = n
			checkMay(t, n == 0 || n > 0 && n <= 31 && names(c, "Edge"), other)
		}
		if names(c, "Refresh") {
			for _, is := range []bool{false, true} {
				c.Refresh = is
				checkMay(t, true, c)
			}
		}
	}
}

// challenge is a challenge and a method, and whether they may be.
type challenge struct {
	text, method string
	may          bool
}

func challenges() []challenge {
	out := []challenge{
		{"", "", true},
		{"", "plain", false},
		{"", "S256", false},
		{"", "s256", false},
		{"", " ", false},
		{verifier, "plain", true},
		{verifier, "", false},
		{verifier, "PLAIN", false},
		{verifier, "Plain", false},
		{verifier, "plain ", false},
		{verifier, strings.Repeat("p", 1000), false},
		{digest, "S256", true},
		{digest, "plain", true},
		{digest, "", false},
		{digest, "s256", false},
		{digest, "S256\x00", false},
		{digest, "S25", false},
		{digest, "S256S256", false},
		{digest + "=", "S256", false},
		{digest[:42], "S256", false},
		{digest + "A", "S256", false},
		{strings.Repeat("A", 43), "S256", true},
		{strings.Repeat("A", 44), "S256", false},
		{strings.Repeat("A", 42), "S256", false},
		{strings.Repeat("A", 42) + "E", "S256", true},
		{strings.Repeat("A", 42) + "B", "S256", false}, // the last sign has bits that are left over
		{strings.Repeat("A", 42) + "C", "S256", false},
		{strings.Repeat("A", 42) + "D", "S256", false},
		{strings.Repeat("A", 42) + ".", "S256", false},
		{strings.Repeat("A", 42) + ".", "plain", true},
		{strings.Repeat("A", 42) + "~", "S256", false},
		{strings.Repeat("A", 42) + "~", "plain", true},
		{strings.Repeat("A", 42) + "=", "plain", false},
		{strings.Repeat("A", 42) + " ", "plain", false},
		{strings.Repeat("A", 42) + "\n", "plain", false},
		{strings.Repeat("A", 43) + "\n", "S256", false},
		{" ", "plain", false},
		{"A", "plain", false},
		{"A", "S256", false},
		{"A", "", false},
		{strings.Repeat("A", 1<<20), "plain", false},
		{strings.Repeat("A", 1<<20), "S256", false},
	}
	for _, n := range lengths(maxText) {
		for _, sign := range []string{"a", "~", "Q"} {
			s := strings.Repeat(sign, n)
			out = append(out, challenge{s, "plain", n >= 43 && n <= maxText}, challenge{s, "", n == 0}, challenge{s, "none", false})
		}
	}
	return out
}

// TestMayChallenges is of P17.1: which challenges may be one by each method, and by none.
func TestMayChallenges(t *testing.T) {
	for _, x := range challenges() {
		for _, c := range commands() {
			if names(c, "Challenge") {
				c.Challenge, c.Method = x.text, x.method
				checkMay(t, x.may, c)
			}
		}
	}
}

// checkRight holds Right against what is said, and against the definition; and Put, which takes what is right alone.
func checkRight(t *testing.T, want bool, f api.Family) {
	t.Helper()
	if isRight(f) != want {
		t.Fatalf("the test's own word for %s: %v", short(familyText(f)), !want)
	}
	if got := grant.Right(f); got != want {
		t.Errorf("Right(%s): %v", short(familyText(f)), got)
	}
	b, behind := made(t, 1), []api.Family{f}
	wantErr := api.OK
	if !want {
		wantErr, behind = api.ErrArg, nil
	}
	if got := b.Put(f); got != wantErr || familiesText(b.Families()) != familiesText(behind) {
		t.Errorf("Put(%s): %d, and there is\n%s", short(familyText(f)), got, short(familiesText(b.Families())))
	}
}

// rights are some families that are right, of each code.
func rights() []api.Family {
	out := []api.Family{
		openFamily(), usedFamily(), revokedFamily(), ownFamily(),
		{Id: "f1", Client: "a", Code: 1},
		{Id: "f1", Client: "a", Code: 1, Revoked: true, Leases: []int{0, 31}},
		{Id: "f1", Client: "a", Code: 2, Tokens: []api.Issued{{Kind: 2}}},
		{Id: "f1", Client: "a", Tokens: []api.Issued{{Kind: 2}}},
		{Id: "f1", Client: "a", Tokens: []api.Issued{{Kind: 3}}},
		{Id: "f1", Client: "a", Tokens: []api.Issued{{Kind: 3, Used: true}}, Revoked: true},
	}
	f := openFamily()
	f.Challenge, f.Method = verifier, "plain"
	return append(out, f)
}

// TestRight is of P17.2: families that are right, and Ids.
func TestRight(t *testing.T) {
	for _, f := range rights() {
		checkRight(t, true, f)
		f.Revoked = !f.Revoked
		checkRight(t, true, f)
		for id, may := range families() {
			f.Id = id
			checkRight(t, may, f)
		}
	}
	checkRight(t, false, api.Family{})
	checkRight(t, false, api.Family{Id: "f1", Client: "a"})
}

// TestRightTexts is of P17.2: how long a family's texts are, and that they are of any bytes.
func TestRightTexts(t *testing.T) {
	for _, f := range rights() {
		own := f.Code == 0
		for _, n := range append(lengths(maxText), 1000, 1<<16, 1<<20) {
			s := strings.Repeat("a", n)
			one := f
			one.Client = s
			checkRight(t, n >= 1 && n <= maxText, one)
			one = f
			one.User = s
			checkRight(t, n == 0 || n <= maxText && !own, one)
			one = f
			one.Redirect = s
			checkRight(t, n == 0 || n <= maxText && !own, one)
		}
		for b := range 256 {
			s := strings.Repeat(string([]byte{byte(b)}), 1+127*(b%2))
			one := f
			one.Client = s
			checkRight(t, true, one)
			one = f
			one.User = s
			checkRight(t, !own, one)
			one = f
			one.Redirect = s
			checkRight(t, !own, one)
		}
	}
}

// TestRightScopes is of P17.2: which scopes are a family's, with tokens for all of it.
func TestRightScopes(t *testing.T) {
	for _, x := range scopes() {
		for _, f := range rights() {
			f = familyCopy(f)
			f.Scope = x.l
			for k := range f.Tokens {
				f.Tokens[k].Scope = slices.Clone(x.l)
			}
			checkRight(t, x.fit, f)
		}
	}
}

// TestRightCodes is of P17.2: codes, and what goes with each.
func TestRightCodes(t *testing.T) {
	token := api.Issued{Kind: 2}
	for _, code := range []int{-256, -3, -2, -1, 0, 1, 2, 3, 4, 255, 256, 257, 258, 1 << 32, 1<<32 + 1, math.MaxInt, math.MinInt, math.MinInt + 1} {
		for _, count := range []int{0, 1, 2, 7, 8, 9} {
			f := api.Family{Id: "f1", Client: "a", Code: code, Tokens: slices.Repeat([]api.Issued{token}, count)}
			checkRight(t, code == 0 && count >= 1 && count <= 8 || code == 1 && count == 0 || code == 2 && count >= 1 && count <= 8, f)
			f.Revoked = true
			checkRight(t, code == 0 && count >= 1 && count <= 8 || code == 1 && count == 0 || code == 2 && count >= 1 && count <= 8, f)
		}
	}
	for _, x := range challenges() {
		none := x.text == "" && x.method == ""
		checkRight(t, x.may, api.Family{Id: "f1", Client: "a", Code: 1, Challenge: x.text, Method: x.method})
		checkRight(t, x.may, api.Family{Id: "f1", Client: "a", Code: 2, Challenge: x.text, Method: x.method, Tokens: []api.Issued{token}})
		checkRight(t, none, api.Family{Id: "f1", Client: "a", Challenge: x.text, Method: x.method, Tokens: []api.Issued{token}})
	}
}

// TestRightTokens is of P17.2: how many tokens a family has, of which kinds, for which scopes, and which may be used.
func TestRightTokens(t *testing.T) {
	with := func(code int, tokens ...api.Issued) api.Family {
		return api.Family{Id: "f1", Client: "a", Scope: []string{"r", "w"}, Code: code, Tokens: tokens}
	}
	good := []api.Issued{{Kind: 2}, {Kind: 2, Scope: []string{"r"}}, {Kind: 2, Scope: []string{"w"}}, {Kind: 2, Scope: []string{"r", "w"}}, {Kind: 3, Scope: []string{"r", "w"}}, {Kind: 3, Scope: []string{"r", "w"}, Used: true}}
	all := []string{"r", "w"}
	bad := []api.Issued{
		{}, {Kind: 1}, {Kind: 0, Scope: all}, {Kind: 1, Scope: all}, {Kind: 4, Scope: all}, {Kind: -1, Scope: all}, {Kind: 258, Scope: all}, {Kind: 1<<32 + 3, Scope: all}, {Kind: math.MaxInt, Scope: all}, {Kind: math.MinInt, Scope: all},
		{Kind: 2, Used: true}, {Kind: 2, Scope: all, Used: true}, {Kind: 1, Scope: all, Used: true},
		{Kind: 3}, {Kind: 3, Scope: []string{"r"}}, {Kind: 3, Scope: []string{"w"}}, {Kind: 3, Scope: []string{"r", "w", "x"}}, {Kind: 3, Scope: []string{"w", "r"}}, {Kind: 3, Scope: []string{"r", "r"}}, {Kind: 3, Scope: []string{"r", "w", ""}}, {Kind: 3, Scope: []string{"r w"}}, {Kind: 3, Used: true}, {Kind: 3, Scope: []string{"r", "x"}},
		{Kind: 2, Scope: []string{"x"}}, {Kind: 2, Scope: []string{"r", "w", "x"}}, {Kind: 2, Scope: []string{"q", "r"}}, {Kind: 2, Scope: []string{"w", "r"}}, {Kind: 2, Scope: []string{"r", "r"}}, {Kind: 2, Scope: []string{""}}, {Kind: 2, Scope: []string{"r", ""}}, {Kind: 2, Scope: []string{"", "r"}}, {Kind: 2, Scope: []string{"r w"}}, {Kind: 2, Scope: []string{"R"}}, {Kind: 2, Scope: make([]string, 1<<16)}, {Kind: 3, Scope: make([]string, 1<<16)}, {Kind: 2, Scope: slices.Repeat([]string{"r"}, 1<<16)},
	}
	for _, code := range []int{0, 2} {
		for count := 1; count <= 12; count++ {
			for k := range good {
				l := make([]api.Issued, count)
				for i := range l {
					l[i] = good[(i+k)%len(good)]
				}
				checkRight(t, count <= maxIssued, with(code, l...))
				for at := range l {
					for _, one := range bad {
						if count <= maxIssued+1 && (k == 0 || at == count-1) {
							spoilt := slices.Clone(l)
							spoilt[at] = one
							checkRight(t, false, with(code, spoilt...))
						}
					}
				}
			}
		}
		checkRight(t, false, with(code, make([]api.Issued, 1<<16)...))
		checkRight(t, false, with(code, slices.Repeat(good[:1], 1<<16)...))
	}
	for _, one := range append(slices.Clone(good), bad...) {
		checkRight(t, false, with(1, one))
	}
	// A family for nothing has tokens for nothing.
	for _, code := range []int{0, 2} {
		for _, one := range []api.Issued{{Kind: 2}, {Kind: 3}, {Kind: 3, Used: true}, {Kind: 2, Scope: []string{}}} {
			f := with(code, one)
			f.Scope = nil
			checkRight(t, true, f)
			for _, l := range [][]string{{"r"}, {""}} {
				f.Tokens[0].Scope = l
				checkRight(t, false, f)
			}
		}
	}
}

// TestRightLeases is of P17.2: leases.
func TestRightLeases(t *testing.T) {
	var all []int
	for n := range maxEdge + 1 {
		all = append(all, n)
	}
	lists := []struct {
		l   []int
		may bool
	}{
		{nil, true}, {[]int{}, true}, {all, true}, {all[1:], true}, {all[:31], true}, {[]int{0, 31}, true}, {[]int{30, 31}, true}, {[]int{0, 1}, true},
		{append(slices.Clone(all), 32), false}, {append([]int{-1}, all...), false}, {append(slices.Clone(all), 31), false}, {append([]int{0}, all...), false},
		{[]int{0, 0}, false}, {[]int{1, 0}, false}, {[]int{31, 31}, false}, {[]int{0, 2, 1}, false}, {[]int{0, 1, 1}, false}, {[]int{1, 0, 2}, false}, {[]int{0, 1, 32}, false}, {[]int{-1, 0, 1}, false},
		{make([]int, 1<<16), false},
	}
	for _, n := range []int{-257, -256, -32, -1, 0, 1, 30, 31, 32, 33, 255, 256, 257, 1 << 32, math.MaxInt, math.MinInt, math.MinInt + 1} {
		lists = append(lists, struct {
			l   []int
			may bool
		}{[]int{n}, n >= 0 && n <= 31})
	}
	for _, x := range lists {
		for _, f := range rights() {
			f.Leases = x.l
			checkRight(t, x.may, f)
		}
	}
}

// TestMayByChance is of P17.1 and P17.2: commands and families by chance, most of them near to one that may be.
func TestMayByChance(t *testing.T) {
	chance := rand.New(rand.NewSource(17))
	ints := []int{-1, 0, 0, 0, 1, 2, 3, 4, 31, 32, maxSerial, maxSerial + 1}
	texts := []string{"", "", "", "a", "f1", verifier, digest, "plain", "S256", strings.Repeat("a", 32), strings.Repeat("a", 33), strings.Repeat("a", 128), strings.Repeat("a", 129), "f.1"}
	lists := [][]string{nil, nil, {"r"}, {"r", "w"}, {"w", "r"}, {""}, {"r", "r"}, words(32, 3), words(33, 1)}
	may, right := 0, 0
	for range 60000 {
		c := commands()[chance.Intn(len(commands()))]
		for range chance.Intn(3) {
			n, s := ints[chance.Intn(len(ints))], texts[chance.Intn(len(texts))]
			switch chance.Intn(12) {
			case 0:
				c.Kind = chance.Intn(10) - 1
			case 1:
				c.Family = s
			case 2:
				c.Serial = n
			case 3:
				c.Token = n
			case 4:
				c.Edge = n
			case 5:
				c.Client = s
			case 6:
				c.User = s
			case 7:
				c.Scope = lists[chance.Intn(len(lists))]
			case 8:
				c.Redirect = s
			case 9:
				c.Challenge = s
			case 10:
				c.Method = s
			case 11:
				c.Verifier, c.Refresh = s, chance.Intn(2) == 0
			}
		}
		if got, want := grant.May(c), mayBe(c); got != want {
			t.Fatalf("May(%s): %v", short(commandText(c)), got)
		} else if got {
			may++
		}
		f := familyCopy(rights()[chance.Intn(len(rights()))])
		for range chance.Intn(3) {
			n, s := ints[chance.Intn(len(ints))], texts[chance.Intn(len(texts))]
			switch chance.Intn(10) {
			case 0:
				f.Id = s
			case 1:
				f.Client = s
			case 2:
				f.User = s
			case 3:
				f.Scope = lists[chance.Intn(len(lists))]
			case 4:
				f.Redirect = s
			case 5:
				f.Challenge = s
			case 6:
				f.Method = s
			case 7:
				f.Code = n
			case 8:
				f.Tokens = append(f.Tokens, api.Issued{Kind: n, Scope: lists[chance.Intn(len(lists))], Used: chance.Intn(2) == 0})
			case 9:
				f.Leases = append(f.Leases, n)
			}
		}
		if got, want := grant.Right(f), isRight(f); got != want {
			t.Fatalf("Right(%s): %v", short(familyText(f)), got)
		} else if got {
			right++
		}
	}
	if may < 15000 || may > 45000 || right < 15000 || right > 45000 {
		t.Errorf("%d commands that may be, %d families that are right", may, right)
	}
}
