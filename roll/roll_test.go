package roll_test

import (
	"encoding/base64"
	"fmt"
	"math/rand"
	"net/url"
	"reflect"
	"regexp"
	"slices"
	"sort"
	"strings"
	"testing"
	"unsafe"

	"signet/api"
	"signet/roll"
)

const (
	maxClients   = 64
	maxId        = 64
	maxText      = 128
	maxRedirects = 4
	maxScopes    = 32
	maxScopeText = 128

	idName     = "client_id"
	secretName = "client_secret"

	codeGrant    = "authorization_code"
	clientGrant  = "client_credentials"
	refreshGrant = "refresh_token"
)

// The face, as the chapter has it.
var (
	_ func(l ...api.Client) (*roll.Roll, api.Errno)                            = roll.New
	_ func(r *roll.Roll) []string                                              = (*roll.Roll).Ids
	_ func(r *roll.Roll, id string) (api.Client, bool)                         = (*roll.Roll).Find
	_ func(r *roll.Roll, header string, form []api.Pair) (string, api.Why)     = (*roll.Roll).Auth
	_ func(r *roll.Roll, id, uri string) (string, bool)                        = (*roll.Roll).Redirect
	_ func(r *roll.Roll, id string, asked []string) (_ []string, granted bool) = (*roll.Roll).Scope
	_ func(r *roll.Roll, id, grant string) bool                                = (*roll.Roll).May
	_ func(id, secret string) string                                           = roll.Header
)

// The chapter's words, as patterns.
var (
	isId       = regexp.MustCompile(`\A[!-~]{1,64}\z`)
	isSecret   = regexp.MustCompile(`\A[!-~]{1,128}\z`)
	isRedirect = regexp.MustCompile(`\A[!"$-~]{1,128}\z`)
	isWord     = regexp.MustCompile(`\A[!#-\[\]-~]{1,64}\z`)
	isQuoted   = regexp.MustCompile(`\A(?:[!-$&-~]|%[0-9A-Fa-f][0-9A-Fa-f])*\z`)
	isBasic    = regexp.MustCompile(`\ABasic ([A-Za-z0-9+/]*=*)\z`)
)

// grantsOf are all that a client's grants may be.
func grantsOf(public bool) [][]string {
	out := [][]string{nil, {codeGrant}, {refreshGrant}, {codeGrant, refreshGrant}}
	if !public {
		out = append(out, []string{clientGrant}, []string{codeGrant, clientGrant}, []string{clientGrant, refreshGrant}, []string{codeGrant, clientGrant, refreshGrant})
	}
	return out
}

// mayBe is the chapter's word for one client.
func mayBe(c api.Client) bool {
	if !isId.MatchString(c.Id) || c.Public && c.Secret != "" || !c.Public && !isSecret.MatchString(c.Secret) {
		return false
	}
	if len(c.Redirects) > maxRedirects || len(c.Scopes) > maxScopes || len(strings.Join(c.Scopes, " ")) > maxScopeText {
		return false
	}
	unlike := map[string]bool{}
	for _, uri := range c.Redirects {
		if unlike[uri] || !isRedirect.MatchString(uri) {
			return false
		}
		unlike[uri] = true
	}
	for k, word := range c.Scopes {
		if !isWord.MatchString(word) || k > 0 && strings.Compare(c.Scopes[k-1], word) >= 0 {
			return false
		}
	}
	return slices.ContainsFunc(grantsOf(c.Public), func(l []string) bool { return slices.Equal(l, c.Grants) })
}

// mayAll is the chapter's word for a roll.
func mayAll(l []api.Client) bool {
	ids := map[string]bool{}
	for _, c := range l {
		ids[c.Id] = true
		if !mayBe(c) {
			return false
		}
	}
	return len(l) <= maxClients && len(ids) == len(l)
}

// quoted is the chapter's word for a text in a form.
func quoted(s string) string {
	var out []byte
	for k := 0; k < len(s); k++ {
		switch c := s[k]; {
		case c >= 'A' && c <= 'Z', c >= 'a' && c <= 'z', c >= '0' && c <= '9', c == '*', c == '-', c == '.', c == '_':
			out = append(out, c)
		case c == ' ':
			out = append(out, '+')
		default:
			out = fmt.Appendf(out, "%%%02X", c)
		}
	}
	return string(out)
}

// basic answers a header of any text.
func basic(s string) string { return "Basic " + base64.StdEncoding.EncodeToString([]byte(s)) }

// headerOf is the chapter's word for a header.
func headerOf(id, secret string) string { return basic(quoted(id) + ":" + quoted(secret)) }

// told answers what a header tells, by the library's own signs and forms.
func told(header string) (id, secret string, ok bool) {
	m := isBasic.FindStringSubmatch(header)
	if m == nil {
		return "", "", false
	}
	b, err := base64.StdEncoding.Strict().DecodeString(m[1])
	colon := strings.Index(string(b), ":")
	if err != nil || colon < 0 {
		return "", "", false
	}
	first, second := string(b[:colon]), string(b[colon+1:])
	if !isQuoted.MatchString(first) || !isQuoted.MatchString(second) {
		return "", "", false
	}
	id, err = url.QueryUnescape(first)
	if err != nil {
		return "", "", false
	}
	secret, err = url.QueryUnescape(second)
	return id, secret, err == nil
}

// valuesOf answers all values of a name.
func valuesOf(form []api.Pair, name string) []string {
	var out []string
	for _, p := range form {
		if p.Name == name {
			out = append(out, p.Value)
		}
	}
	return out
}

// authOf is the chapter's word for who shows himself, among these clients.
func authOf(l []api.Client, header string, form []api.Pair) (string, api.Why) {
	ids, secrets := valuesOf(form, idName), valuesOf(form, secretName)
	if header != "" {
		id, secret, ok := told(header)
		at := slices.IndexFunc(l, func(c api.Client) bool { return c.Id == id })
		switch {
		case len(secrets) >= 1, len(ids) >= 2:
			return "", api.InvalidRequest
		case !ok, at < 0, l[at].Public, l[at].Secret != secret:
			return "", api.InvalidClient
		case len(ids) == 1 && ids[0] != id:
			return "", api.InvalidRequest
		}
		return id, api.WhyNone
	}
	if len(ids) >= 2 || len(secrets) >= 2 {
		return "", api.InvalidRequest
	}
	if len(ids) == 0 {
		return "", api.InvalidClient
	}
	at := slices.IndexFunc(l, func(c api.Client) bool { return c.Id == ids[0] })
	switch {
	case at < 0:
		return "", api.InvalidClient
	case l[at].Public && len(secrets) == 1:
		return "", api.InvalidClient
	case !l[at].Public && (len(secrets) == 0 || secrets[0] != l[at].Secret):
		return "", api.InvalidClient
	}
	return ids[0], api.WhyNone
}

// made answers a roll that is surely made.
func made(t *testing.T, l ...api.Client) *roll.Roll {
	t.Helper()
	r, e := roll.New(l...)
	if e != api.OK || r == nil {
		t.Fatalf("New of %d: %v, %d: %.300q", len(l), r, e, fmt.Sprint(l))
	}
	return r
}

// same tells whether two clients are the same, where a list without elements counts as none.
func same(a, b api.Client) bool {
	return a.Id == b.Id && a.Secret == b.Secret && a.Public == b.Public && slices.Equal(a.Redirects, b.Redirects) && slices.Equal(a.Scopes, b.Scopes) && slices.Equal(a.Grants, b.Grants)
}

// checkNone holds that nothing is answered of an Id that is none.
func checkNone(t *testing.T, r *roll.Roll, id string) {
	t.Helper()
	if c, ok := r.Find(id); ok || !same(c, api.Client{}) {
		t.Errorf("Find(%.80q): %v, %v", id, c, ok)
	}
	for _, uri := range []string{"", "u", id} {
		if got, ok := r.Redirect(id, uri); ok || got != "" {
			t.Errorf("Redirect(%.80q, %.80q): %q, %v", id, uri, got, ok)
		}
	}
	for _, asked := range [][]string{nil, {}, {""}, {"r"}, {"r", "r", "w"}} {
		if got, ok := r.Scope(id, asked); ok || len(got) != 0 {
			t.Errorf("Scope(%.80q, %q): %q, %v", id, asked, got, ok)
		}
	}
	for _, grant := range []string{"", codeGrant, clientGrant, refreshGrant} {
		if r.May(id, grant) {
			t.Errorf("May(%.80q, %q)", id, grant)
		}
	}
	if got, why := r.Auth(headerOf(id, "s"), nil); got != "" || why != api.InvalidClient {
		t.Errorf("Auth of %.80q: %q, %d", id, got, why)
	}
	for _, form := range [][]api.Pair{{{Name: idName, Value: id}}, {{Name: idName, Value: id}, {Name: secretName}}, {{Name: idName, Value: id}, {Name: secretName, Value: "s"}}} {
		if got, why := r.Auth("", form); got != "" || why != api.InvalidClient {
			t.Errorf("Auth of %.80q: %q, %d", id, got, why)
		}
	}
}

// checkClient holds what is answered of one client.
func checkClient(t *testing.T, r *roll.Roll, c api.Client) {
	t.Helper()
	if got, ok := r.Find(c.Id); !ok || !same(got, c) {
		t.Errorf("Find(%q): %v, %v; want %v", c.Id, got, ok, c)
	}
	for _, uri := range c.Redirects {
		if got, ok := r.Redirect(c.Id, uri); !ok || got != uri {
			t.Errorf("Redirect(%q, %q): %q, %v", c.Id, uri, got, ok)
		}
	}
	if got, ok := r.Scope(c.Id, nil); !ok || !slices.Equal(got, c.Scopes) {
		t.Errorf("Scope(%q): %q, %v; want %q", c.Id, got, ok, c.Scopes)
	}
	for _, grant := range []string{codeGrant, clientGrant, refreshGrant, ""} {
		if got := r.May(c.Id, grant); got != slices.Contains(c.Grants, grant) {
			t.Errorf("May(%q, %q): %v", c.Id, grant, got)
		}
	}
	id, why := r.Auth("", []api.Pair{{Name: idName, Value: c.Id}, {Name: secretName, Value: c.Secret}})
	if c.Public {
		id, why = r.Auth("", []api.Pair{{Name: idName, Value: c.Id}})
	}
	if id != c.Id || why != api.WhyNone {
		t.Errorf("Auth of %q: %q, %d", c.Id, id, why)
	}
}

// check holds a roll against the clients that it was made of.
func check(t *testing.T, r *roll.Roll, l []api.Client) {
	t.Helper()
	var ids []string
	for _, c := range l {
		ids = append(ids, c.Id)
		checkClient(t, r, c)
	}
	sort.Strings(ids)
	if got := r.Ids(); !slices.Equal(got, ids) {
		t.Errorf("Ids(): %q; want %q", got, ids)
	}
	for _, id := range []string{"", "none", "\x00", strings.Repeat("n", maxId+1)} {
		if !slices.Contains(ids, id) {
			checkNone(t, r, id)
		}
	}
}

// checkNew holds New against what is said, and against the definition.
func checkNew(t *testing.T, want bool, l ...api.Client) {
	t.Helper()
	if mayAll(l) != want {
		t.Fatalf("%.300q may be: %v", fmt.Sprint(l), !want)
	}
	r, e := roll.New(l...)
	if !want {
		if r != nil || e != api.ErrArg {
			t.Errorf("New of %.300q: %v, %d", fmt.Sprint(l), r, e)
		}
		return
	}
	if r == nil || e != api.OK {
		t.Errorf("New of %.300q: %v, %d", fmt.Sprint(l), r, e)
		return
	}
	check(t, r, l)
}

// checkOne holds New of a client, alone and at each place among others.
func checkOne(t *testing.T, want bool, c api.Client) {
	t.Helper()
	checkNew(t, want, c)
	others := []api.Client{{Id: "other1", Secret: "x"}, {Id: "other2", Public: true}, {Id: "other3", Secret: "y", Grants: []string{clientGrant}}}
	for at := range len(others) + 1 {
		checkNew(t, want, slices.Insert(slices.Clone(others), at, c)...)
	}
}

// clients answers so many that may be.
func clients(count int) []api.Client {
	var out []api.Client
	for k := range count {
		c := api.Client{Id: fmt.Sprint("c", k), Secret: fmt.Sprint("s", k), Redirects: []string{fmt.Sprint("u", k)}, Scopes: []string{"r", fmt.Sprint("s", k)}, Grants: grantsOf(false)[k%8]}
		if k%3 == 2 {
			c = api.Client{Id: fmt.Sprint("c", k), Public: true, Redirects: []string{"u", "v"}, Grants: grantsOf(true)[k%4]}
		}
		out = append(out, c)
	}
	return out
}

// ofEach answers the two kinds of a client that may be.
func ofEach() []api.Client {
	return []api.Client{{Id: "a", Secret: "s"}, {Id: "a", Public: true}}
}

// lengths are those at and beside a bound, and far ones.
func lengths(most int) []int {
	out := []int{255, 256, 257, 256 + most, 1 << 10, 1 << 16, 1<<16 + 1, 1<<16 + most}
	for n := range most + 3 {
		out = append(out, n)
	}
	return out
}

// checkTexts holds a text of a client, by its length and by its bytes: with are the clients that have that text, may tells whether they may be.
func checkTexts(t *testing.T, most int, with func(s string) []api.Client, may func(b byte) bool) {
	t.Helper()
	hold := func(want bool, s string) {
		t.Helper()
		for _, c := range with(s) {
			checkOne(t, want, c)
		}
	}
	for _, n := range lengths(most) {
		for _, sign := range []string{"a", "!", "~", "0"} {
			hold(n >= 1 && n <= most, strings.Repeat(sign, n))
		}
	}
	for b := range 256 {
		s := string([]byte{byte(b)})
		for _, text := range []string{s, s + "b", "b" + s, "b" + s + "b", s + s, strings.Repeat("b", most-1) + s, s + strings.Repeat("b", most-1), strings.Repeat(s, most)} {
			hold(may(byte(b)), text)
		}
		hold(false, strings.Repeat("b", most)+s)
		hold(false, s+strings.Repeat("b", most))
	}
	for _, s := range []string{"\xff", "\xc3", "\xc3\xa9", "é", "aé", "\u2028", "a b", "a\n", "\na", "a\x00", "a\tb", "\u00a0", "a\ufffd", strings.Repeat("é", most/2)} {
		hold(false, s)
	}
}

func within(least, greatest byte, but string) func(byte) bool {
	return func(b byte) bool { return b >= least && b <= greatest && strings.IndexByte(but, b) < 0 }
}

// TestExample is the chapter's.
func TestExample(t *testing.T) {
	r := made(t, api.Client{Id: "a", Secret: "s:"})
	if got := roll.Header("a", "s:"); got != "Basic YTpzJTNB" {
		t.Errorf("%q", got)
	}
	id, secret := api.Pair{Name: "client_id", Value: "a"}, api.Pair{Name: "client_secret", Value: "s:"}
	for _, c := range []struct {
		header string
		form   []api.Pair
		id     string
		why    api.Why
	}{
		{"Basic YTpzJTNB", nil, "a", 0},
		{"Basic YTpzJTNB", []api.Pair{}, "a", 0},
		{"", []api.Pair{id, secret}, "a", 0},
		{"", []api.Pair{secret, id}, "a", 0},
		{"Basic YTpzJTNB", []api.Pair{id, secret}, "", 1},
		{"", []api.Pair{id}, "", 2},
	} {
		if got, why := r.Auth(c.header, c.form); got != c.id || why != c.why {
			t.Errorf("%q, %v: %q, %d; want %q, %d", c.header, c.form, got, why, c.id, c.why)
		}
	}
}

// TestCounts is of P15.1: how many clients a roll may have.
func TestCounts(t *testing.T) {
	for count := range maxClients + 1 {
		l := clients(count)
		checkNew(t, true, l...)
		slices.Reverse(l)
		checkNew(t, true, l...)
	}
	for _, count := range []int{maxClients + 1, maxClients + 2, 2 * maxClients, 255, 256, 257, 256 + maxClients, 1 << 12, 1 << 16} {
		checkNew(t, false, clients(count)...)
		checkNew(t, false, make([]api.Client, count)...)
	}
	checkNew(t, false, api.Client{})
	checkNew(t, false, make([]api.Client, 2)...)
}

// TestIds is of P15.1: what an Id may be.
func TestIds(t *testing.T) {
	checkTexts(t, maxId, func(s string) []api.Client {
		return []api.Client{{Id: s, Secret: "s"}, {Id: s, Public: true}}
	}, within(33, 126, ""))
}

// TestSecrets is of P15.1: what a secret may be; a public client has none.
func TestSecrets(t *testing.T) {
	checkTexts(t, maxText, func(s string) []api.Client {
		return []api.Client{{Id: "a", Secret: s}}
	}, within(33, 126, ""))
	for _, n := range lengths(maxText) {
		checkOne(t, n == 0, api.Client{Id: "a", Secret: strings.Repeat("s", n), Public: true})
	}
	for b := range 256 {
		checkOne(t, false, api.Client{Id: "a", Secret: string([]byte{byte(b)}), Public: true})
	}
}

// TestRedirects is of P15.1: what a Redirect may be, wherever it stands, and how many there may be.
func TestRedirects(t *testing.T) {
	for _, c := range ofEach() {
		checkTexts(t, maxText, func(s string) []api.Client {
			c.Redirects = []string{s}
			return []api.Client{c}
		}, within(33, 126, "#"))
	}
	good := []string{"u0", "u1", "u2", "u3", "u4", "u5", "u6", "u7", "u8", "u9"}
	for _, c := range ofEach() {
		for count := range good {
			c.Redirects = good[:count]
			checkOne(t, count <= maxRedirects, c)
			for at := range count {
				c.Redirects = slices.Clone(good[:count])
				for _, uri := range []string{"", "#", "u#", "#u", "u#0", "u ", "\x20", "\x7f", "\x1f", "\xff", "u\x80", strings.Repeat("u", maxText+1)} {
					c.Redirects[at] = uri
					checkOne(t, false, c)
				}
				for _, uri := range []string{"!", "~", "U0", "u00", "u", "http://a/b?c=d&e=%20", strings.Repeat("u", maxText)} {
					c.Redirects[at] = uri
					checkOne(t, count <= maxRedirects, c)
				}
				for other := range at {
					c.Redirects[at] = strings.Clone(good[other])
					checkOne(t, false, c)
				}
			}
		}
		for _, count := range []int{256, 260, 1 << 16} {
			c.Redirects = make([]string, count)
			checkOne(t, false, c)
			for k := range c.Redirects {
				c.Redirects[k] = fmt.Sprint("u", k)
			}
			checkOne(t, false, c)
		}
		// In any order.
		c.Redirects = []string{"z", "b", "c", "a"}
		checkOne(t, true, c)
	}
}

// words answers so many, rising, each of so many bytes.
func words(count, length int) []string {
	var out []string
	for k := range count {
		out = append(out, fmt.Sprintf("%0*d", length, k))
	}
	return out
}

// TestScopes is of P15.1: a client's Scopes are a set, of no more than so many words and bytes.
func TestScopes(t *testing.T) {
	for _, c := range ofEach() {
		checkTexts(t, maxId, func(s string) []api.Client {
			c.Scopes = []string{s}
			return []api.Client{c}
		}, within(33, 126, "\"\\"))
		for _, count := range []int{0, 1, 2, 31, 32, 33, 34, 42, 43, 64, 255, 256, 257, 288, 1 << 16} {
			// The words of two bytes are 3 * count - 1 bytes.
			c.Scopes = words(count, 2)
			checkOne(t, count <= maxScopes, c)
		}
		signs := "!$%&'()*+,-./0123456789:;<=>?@ABCDEFGHIJ"
		for count := range len(signs) {
			// Each is one byte, so that only their number is too great.
			c.Scopes = strings.Split(signs[:count], "")
			checkOne(t, count <= maxScopes, c)
		}
		for _, l := range [][]string{
			{"b", "a"}, {"a", "a"}, {"a", "b", "a"}, {"a", "b", "b"}, {"a", "c", "b"}, {"a", "A"}, {"b", "aa"}, {"ab", "a"},
			{""}, {"", "a"}, {"a", ""}, {"a", "", "b"}, {"a b"}, {" "}, {"a ", "b"}, {"\"", "a"}, {"a", "\\"}, {"a", "\x7f"}, {"a", "\xff"}, {"\x1f", "a"},
			{"a", strings.Repeat("b", maxId+1)}, {strings.Repeat("a", maxId+1), "b"}, {"", ""}, {"a", "a", "a"},
		} {
			c.Scopes = l
			checkOne(t, false, c)
		}
		for _, l := range [][]string{{"a", "b"}, {"A", "a"}, {"a", "aa"}, {"!", "#", "[", "]", "~"}, {"10", "9"}, {"Z", "a"}} {
			c.Scopes = l
			checkOne(t, true, c)
		}
	}
}

// TestScopeText is of P15.1: how many bytes the text of a client's Scopes may have, the blanks between among them.
func TestScopeText(t *testing.T) {
	for _, c := range ofEach() {
		for _, count := range []int{2, 3, 4, 8, 16, 31, 32} {
			for bytes := 2*count - 1 + count; bytes <= maxScopeText+3; bytes++ {
				// All words have two bytes; the last ones are made longer, up to 64.
				l := words(count, 2)
				left := bytes - (3*count - 1)
				for k := count - 1; k >= 0 && left > 0; k-- {
					more := min(left, maxId-2)
					l[k] += strings.Repeat("x", more)
					left -= more
				}
				if left > 0 {
					continue
				}
				c.Scopes = l
				if got := len(strings.Join(l, " ")); got != bytes {
					t.Fatalf("%d bytes; want %d", got, bytes)
				}
				checkOne(t, bytes <= maxScopeText, c)
			}
		}
		c.Scopes = []string{strings.Repeat("a", 63), strings.Repeat("b", 64)}
		checkOne(t, true, c) // 128 bytes
		c.Scopes = []string{strings.Repeat("a", 64), strings.Repeat("b", 64)}
		checkOne(t, false, c) // 129
	}
}

// TestGrants is of P15.1: all lists of four grants at most, of the three and of others.
func TestGrants(t *testing.T) {
	all := []string{codeGrant, clientGrant, refreshGrant, "", "password", "implicit", "Refresh_token", "authorization_code ", "authorization", "client_credential", "refresh_tokens", "\xff", " refresh_token", "refresh_token\x00", codeGrant + " " + refreshGrant, "code", "a", "z", strings.Repeat("r", 1<<12)}
	var hold func(l []string, most int)
	hold = func(l []string, most int) {
		for _, c := range ofEach() {
			c.Grants = slices.Clone(l)
			checkNew(t, mayBe(c), c)
		}
		if len(l) == most {
			return
		}
		for k, grant := range all {
			if k < 3 || len(l) < 2 {
				hold(append(slices.Clone(l), grant), most)
			}
		}
	}
	hold(nil, 4)
	for _, c := range ofEach() {
		for _, l := range grantsOf(c.Public) {
			c.Grants = l
			checkOne(t, true, c)
		}
		for _, l := range [][]string{{codeGrant, codeGrant}, {refreshGrant, codeGrant}, {codeGrant, refreshGrant, refreshGrant}, {"password"}, {""}, {codeGrant, "password"}, {codeGrant, refreshGrant, "z"}, {"a", codeGrant}, {clientGrant, codeGrant}, {codeGrant, clientGrant, refreshGrant, refreshGrant}} {
			c.Grants = l
			checkOne(t, false, c)
		}
		for _, l := range [][]string{{clientGrant}, {codeGrant, clientGrant}, {clientGrant, refreshGrant}, {codeGrant, clientGrant, refreshGrant}} {
			c.Grants = l
			checkOne(t, !c.Public, c)
		}
		for _, count := range []int{4, 5, 256, 1 << 16} {
			c.Grants = slices.Repeat([]string{codeGrant}, count)
			checkOne(t, false, c)
			c.Grants = make([]string, count)
			checkOne(t, false, c)
		}
	}
}

// TestLengths is of P15.1: words at the bound of the issue's own numbers, one field at a time and all together.
func TestLengths(t *testing.T) {
	full := api.Client{Id: strings.Repeat("~", maxId), Secret: strings.Repeat("!", maxText), Redirects: []string{strings.Repeat("a", maxText), strings.Repeat("b", maxText), strings.Repeat("~", maxText), strings.Repeat("!", maxText)}, Scopes: []string{strings.Repeat("a", 63), strings.Repeat("b", 64)}, Grants: []string{codeGrant, clientGrant, refreshGrant}}
	checkOne(t, true, full)
	var l []api.Client
	for k := range maxClients {
		c := full
		c.Id = fmt.Sprintf("%s%02d", full.Id[2:], k)
		l = append(l, c)
	}
	checkNew(t, true, l...)
	for _, change := range []func(c *api.Client){
		func(c *api.Client) { c.Id += "a" },
		func(c *api.Client) { c.Secret += "a" },
		func(c *api.Client) { c.Redirects = append(slices.Clone(c.Redirects), "z") },
		func(c *api.Client) { c.Redirects = append(slices.Clone(c.Redirects[:3]), c.Redirects[0]) },
		func(c *api.Client) { c.Redirects = append(slices.Clone(c.Redirects[:3]), c.Redirects[0]+"a") },
		func(c *api.Client) { c.Scopes = append(slices.Clone(c.Scopes), "c") },
		func(c *api.Client) { c.Grants = append(slices.Clone(c.Grants), "z") },
		func(c *api.Client) { c.Public = true },
		func(c *api.Client) { c.Public, c.Secret = true, "" },
	} {
		for _, at := range []int{0, 1, maxClients / 2, maxClients - 1} {
			other := slices.Clone(l)
			change(&other[at])
			checkNew(t, false, other...)
			checkNew(t, false, other[at])
		}
	}
}

// TestSame is of P15.1: no two clients have one Id, next to one another or apart, be they else the same or not; but Ids may be much alike.
func TestSame(t *testing.T) {
	for _, count := range []int{2, 3, 10, maxClients} {
		for at := range count {
			for _, other := range []int{0, at / 2, at - 1} {
				if other < 0 || other == at {
					continue
				}
				l := clients(count)
				l[at].Id = strings.Clone(l[other].Id)
				checkNew(t, false, l...)
				l[at] = l[other]
				checkNew(t, false, l...)
			}
		}
	}
	alike := []string{"a", "A", "aa", "a!", "!a", "~", "!", "a:", ":a", "%61", "a%", "+", strings.Repeat("a", maxId), strings.Repeat("a", maxId-1), strings.Repeat("a", maxId-1) + "b"}
	var l []api.Client
	for k, id := range alike {
		l = append(l, api.Client{Id: id, Secret: fmt.Sprint("s", k)})
	}
	checkNew(t, true, l...)
	// Of one Secret there may be many, and of one of all else.
	for k := range l {
		l[k].Secret, l[k].Redirects, l[k].Scopes, l[k].Grants = "s", []string{"u"}, []string{"r"}, []string{clientGrant}
	}
	checkNew(t, true, l...)
}

// TestOrder is of P15.1: Ids rise, byte by byte, whatever order the clients were handed in.
func TestOrder(t *testing.T) {
	want := []string{"!", "!!", "1", "10", "9", "A", "B", "Z", "_", "a", "a!", "aA", "aa", "ab", "b", "~", "~!"}
	chance := rand.New(rand.NewSource(15))
	for range 200 {
		l := make([]api.Client, len(want))
		for k, at := range chance.Perm(len(want)) {
			l[k] = api.Client{Id: want[at], Secret: "s"}
		}
		r := made(t, l...)
		for range 3 {
			if got := r.Ids(); !slices.Equal(got, want) {
				t.Fatalf("%q", got)
			}
		}
	}
}

// TestFind is of P15.1: the client of an Id, of no other text.
func TestFind(t *testing.T) {
	l := clients(20)
	r := made(t, l...)
	check(t, r, l)
	for _, c := range l {
		for _, id := range []string{c.Id + " ", " " + c.Id, strings.ToUpper(c.Id), c.Id[:1], c.Id + "\x00", c.Id + c.Id, c.Id + ".", c.Secret + "!"} {
			checkNone(t, r, id)
		}
	}
	for b := range 256 {
		checkNone(t, r, string([]byte{byte(b)}))
	}
	check(t, made(t), nil)
}

// byChance answers a client of a few texts, that often may be.
func byChance(chance *rand.Rand) api.Client {
	of := func(l ...string) string { return l[chance.Intn(len(l))] }
	some := func(most int, l ...string) []string {
		var out []string
		for range chance.Intn(most + 1) {
			out = append(out, of(l...))
		}
		if chance.Intn(4) > 0 {
			slices.Sort(out)
			out = slices.Compact(out)
		}
		return out
	}
	c := api.Client{Id: of("a", "b", "c", "d", "e", "f", "g", "h"), Public: chance.Intn(3) == 0}
	if !c.Public || chance.Intn(10) == 0 {
		c.Secret = of("s", "s:", "%", "a+b", "~", strings.Repeat("s", maxText))
	}
	c.Redirects = some(4, "u", "v", "w", "x", "y")
	c.Scopes = some(5, "r", "w", "x", strings.Repeat("y", 60), strings.Repeat("z", 61))
	c.Grants = some(3, codeGrant, clientGrant, refreshGrant, codeGrant, refreshGrant)
	if chance.Intn(20) == 0 {
		c.Id = of("", " ", "\x7f", "\xff", strings.Repeat("a", maxId+1))
	}
	if chance.Intn(20) == 0 {
		c.Redirects = append(c.Redirects, of("", "#", " ", "\xff"))
	}
	return c
}

// TestNewByChance is of P15.1: rolls by chance, held against the definition.
func TestNewByChance(t *testing.T) {
	chance := rand.New(rand.NewSource(151))
	good, bad := 0, 0
	for range 60000 {
		var l []api.Client
		for range chance.Intn(4) {
			l = append(l, byChance(chance))
		}
		want := mayAll(l)
		if want {
			good++
		} else {
			bad++
		}
		checkNew(t, want, l...)
	}
	if good < 5000 || bad < 5000 {
		t.Errorf("%d may be, %d may not", good, bad)
	}
}

// oddTexts are of many lengths, and of bytes that have to be quoted, or are no text.
func oddTexts() []string {
	out := []string{"", " ", ":", "::", "a:b", "%", "%41", "+", "a b", "=", "&", "/", "?", "#", "\xff\xfe", "\xc3", "é", "\u2028", "\x00", "a\x00b", "*-._", "~", "!", "client_id", strings.Repeat("\xff", 100), strings.Repeat("k", 5000)}
	for n := range 40 {
		out = append(out, strings.Repeat("a", n), strings.Repeat("~", n))
	}
	for b := range 256 {
		out = append(out, string([]byte{byte(b)}))
	}
	return out
}

// TestHeader is of P15.2: against what is spelt out, and against the definition.
func TestHeader(t *testing.T) {
	for _, c := range []struct{ id, secret, want string }{
		{"", "", "Basic Og=="},                 // :
		{"a", "", "Basic YTo="},                // a:
		{"", "b", "Basic OmI="},                // :b
		{"a", "b", "Basic YTpi"},               // a:b
		{"a b", "", "Basic YStiOg=="},          // a+b:
		{":", ":", "Basic JTNBOiUzQQ=="},       // %3A:%3A
		{"\xff", "\x00", "Basic JUZGOiUwMA=="}, // %FF:%00
		{"~", "*-._", "Basic JTdFOiotLl8="},    // %7E:*-._
	} {
		if got := roll.Header(c.id, c.secret); got != c.want {
			t.Errorf("Header(%q, %q): %q; want %q", c.id, c.secret, got, c.want)
		}
	}
	for _, id := range oddTexts() {
		for _, secret := range oddTexts() {
			if got, want := roll.Header(id, secret), headerOf(id, secret); got != want {
				t.Fatalf("Header(%.80q, %.80q): %.300q; want %.300q", id, secret, got, want)
			}
		}
	}
	chance := rand.New(rand.NewSource(152))
	for range 3000 {
		id, secret := make([]byte, chance.Intn(80)), make([]byte, chance.Intn(140))
		chance.Read(id)
		chance.Read(secret)
		if got, want := roll.Header(string(id), string(secret)), headerOf(string(id), string(secret)); got != want {
			t.Fatalf("Header(%q, %q): %q; want %q", id, secret, got, want)
		}
	}
}

// few are the clients of the tests of Auth: a client, a public one, one whose texts have to be quoted, one with a's secret, ones whose Ids and secrets look quoted or like another's.
func few() []api.Client {
	return []api.Client{
		{Id: "a", Secret: "s:"},
		{Id: "p", Public: true},
		{Id: "b:%+", Secret: "%3A+:&="},
		{Id: "a2", Secret: "s:"},
		{Id: "A", Secret: "s"},
		{Id: "%61", Secret: "s:"},
		{Id: "a:s", Secret: ":"},
	}
}

// shown is a header and whom it shows; nobody, where the Id is empty.
type shown struct {
	header, id string
}

// headers are such ones, told by hand.
func headers() []shown {
	out := []shown{
		// Right ones, as Header tells them and otherwise quoted.
		{"Basic YTpzJTNB", "a"},
		{basic("a:s%3A"), "a"},
		{basic("a:s%3a"), "a"},
		{basic("a:s:"), "a"},
		{basic("%61:s:"), "a"},
		{basic("%61:%73%3A"), "a"},
		{basic("b%3A%25%2B:%253A%2B%3A%26%3D"), "b:%+"},
		{basic("b%3a%25%2b:%253A%2B:&="), "b:%+"},
		{basic("a2:s:"), "a2"},
		{basic("A:s"), "A"},
		{basic("%2561:s%3A"), "%61"},
		{basic("a%3As:%3A"), "a:s"},
		{basic("a%3As::"), "a:s"},
		// Not Basic, or no blank, or not just one.
		{"YTpzJTNB", ""}, {"basic YTpzJTNB", ""}, {"BASIC YTpzJTNB", ""}, {"BasicYTpzJTNB", ""}, {"Basic", ""}, {"Basic ", ""}, {" ", ""}, {"B", ""},
		{"Basic  YTpzJTNB", ""}, {" Basic YTpzJTNB", ""}, {"Basic\tYTpzJTNB", ""}, {"Basic\x00YTpzJTNB", ""}, {"Basic+YTpzJTNB", ""}, {"Bearer YTpzJTNB", ""}, {"Basic=YTpzJTNB", ""},
		{"Basic Basic YTpzJTNB", ""}, {"asic YTpzJTNB", ""}, {"Basi YTpzJTNB", ""}, {"Basic: YTpzJTNB", ""}, {"a:s:", ""}, {"Basic a:s:", ""}, {"\xff", ""}, {"\x00", ""},
		// No basic signs of any bytes.
		{"Basic YTpzJTNB ", ""}, {"Basic YTpzJTN", ""}, {"Basic YTpzJTNBA", ""}, {"Basic YTpzJTNB=", ""}, {"Basic YTpzJTNB====", ""}, {"Basic YTpz JTNB", ""}, {"Basic YTpz\nJTNB", ""}, {"Basic YTpzJTNB\n", ""}, {"Basic YTpzJTNB\r\n", ""},
		{"Basic =YTpzJTNB", ""}, {"Basic YTpz=JTNB", ""}, {"Basic ====", ""}, {"Basic !", ""}, {"Basic A", ""}, {"Basic YTpzJTNC\xff", ""}, {"Basic YTpzJTN\x00", ""}, {"Basic YTpzJTNB, Basic YTpzJTNB", ""},
		{"Basic YTpzOg", ""}, {"Basic YTpzOg=", ""}, {"Basic YTpzOg==", "a"}, {"Basic YTpzOg===", ""}, {"Basic YTpzOh==", ""}, {"Basic YTpzOi==", ""}, {"Basic YTpzOv==", ""}, {"Basic YTIJczo=", ""}, {"Basic YTI6czo=", "a2"}, {"Basic YTI6czo", ""}, {"Basic YTI6czp=", ""},
		{"Basic " + base64.URLEncoding.EncodeToString([]byte("a:~~?>>>")), ""}, {"Basic YTI6-zo_", ""},
		// No colon, or not in that place.
		{basic(""), ""}, {basic("a"), ""}, {basic("as%3A"), ""}, {basic("a%3As%3A"), ""}, {basic("a s%3A"), ""}, {basic("a;s%3A"), ""}, {basic("a=s%3A"), ""},
		// The first of several colons.
		{basic(":a:s%3A"), ""}, {basic("a::s%3A"), ""}, {basic("a:s::"), ""}, {basic("a:s:s:"), ""}, {basic("a:s%3A:"), ""}, {basic("a:s::"), ""}, {basic("a:::"), ""},
		// Without an Id, without a secret.
		{basic(":"), ""}, {basic("a:"), ""}, {basic(":s%3A"), ""}, {basic("::"), ""},
		// What can't be unquoted.
		{basic("a:s%"), ""}, {basic("a:s%3"), ""}, {basic("a:s%3G"), ""}, {basic("a:%"), ""}, {basic("%:s:"), ""}, {basic("%6:s:"), ""}, {basic("%6g:s:"), ""}, {basic("a%:s:"), ""},
		{basic("a :s:"), ""}, {basic("a: s:"), ""}, {basic("a:s: "), ""}, {basic("a:s:\n"), ""}, {basic("\x00a:s:"), ""}, {basic("a:s:\x00"), ""}, {basic("a:s:\x7f"), ""}, {basic("a\x7f:s:"), ""}, {basic("\xff:s:"), ""}, {basic("a:\xff"), ""}, {basic("a:s:\x1f"), ""}, {basic("é:s:"), ""},
		// Of no client.
		{basic("c:s:"), ""}, {basic("aa:s:"), ""}, {basic("a%20:s:"), ""}, {basic("a+:s:"), ""}, {basic("+a:s:"), ""}, {basic("%41:s:"), ""}, {basic("%00:s:"), ""}, {basic("a%00:s:"), ""}, {basic("a%3a:s:"), ""},
		// Of a public one.
		{basic("p:"), ""}, {basic("p:p"), ""}, {basic("p:s:"), ""}, {basic("p:%00"), ""}, {basic("%70:"), ""},
		// Of another secret.
		{basic("a:s"), ""}, {basic("a:S:"), ""}, {basic("a:s;"), ""}, {basic("a:s%3B"), ""}, {basic("a:s%253A"), ""}, {basic("a:ss:"), ""}, {basic("a:s%3A%3A"), ""}, {basic("a:s:%00"), ""}, {basic("a:%00s:"), ""}, {basic("a:+s:"), ""}, {basic("A:s:"), ""}, {basic("A:"), ""}, {basic("%2561:s"), ""}, {basic("b%3A%25%2B:%3A+%3A%26%3D"), ""}, {basic("a:" + strings.Repeat("s:", 2000)), ""},
	}
	for _, c := range few() {
		if !c.Public {
			out = append(out, shown{headerOf(c.Id, c.Secret), c.Id})
		}
	}
	return out
}

// forms answers forms with so many client_id and client_secret, in all orders, with other pairs among them and without.
func forms(ids, secrets []string) [][]api.Pair {
	var front, back []api.Pair
	for _, id := range ids {
		front = append(front, api.Pair{Name: idName, Value: id})
	}
	for _, secret := range secrets {
		back = append(back, api.Pair{Name: secretName, Value: secret})
	}
	others := []api.Pair{{Name: "Client_id", Value: "a"}, {Name: "client_id ", Value: "a2"}, {Name: "client_secre", Value: "s:"}, {Name: "", Value: "client_secret"}, {Name: "client_secrets", Value: "s"}, {Name: "grant_type", Value: "client_id"}, {Name: "clientid", Value: "p"}}
	mixed := slices.Concat(others[:2], back, others[2:4], front, others[4:])
	return [][]api.Pair{slices.Concat(front, back), slices.Concat(back, front), mixed}
}

// idLists and secretLists are what a form may have of each name.
func idLists() [][]string {
	return [][]string{nil, {""}, {"a"}, {"p"}, {"b:%+"}, {"a2"}, {"A"}, {"%61"}, {"a:s"}, {"c"}, {"a "}, {"a\x00"}, {"\xff"}, {"a", "a"}, {"a", "c"}, {"c", "a"}, {"", "a"}, {"a", ""}, {"", ""}, {"p", "p"}, {"p", "a"}, {"a", "a", "a"}}
}

func secretLists() [][]string {
	return [][]string{nil, {""}, {"s:"}, {"s"}, {"%3A+:&="}, {":"}, {"s%3A"}, {"S:"}, {"s;"}, {"s::"}, {"s: "}, {"s:\x00"}, {"\xff"}, {"a"}, {"s:", "s:"}, {"s:", "x"}, {"x", "s:"}, {"", ""}, {"", "s:"}, {"s:", "s:", "s:"}}
}

// TestAuthHeader is of P15.3: each header with each form, the first reason that applies.
func TestAuthHeader(t *testing.T) {
	r := made(t, few()...)
	for _, h := range headers() {
		for _, ids := range idLists() {
			for _, secrets := range secretLists() {
				want, why := h.id, api.WhyNone
				switch {
				case len(secrets) > 0 || len(ids) > 1:
					want, why = "", api.InvalidRequest
				case h.id == "":
					want, why = "", api.InvalidClient
				case len(ids) == 1 && ids[0] != h.id:
					want, why = "", api.InvalidRequest
				}
				for _, form := range forms(ids, secrets) {
					if got, reason := r.Auth(h.header, form); got != want || reason != why {
						t.Errorf("Auth(%.80q, %q): %q, %d; want %q, %d", h.header, form, got, reason, want, why)
					}
				}
				if got, reason := authOf(few(), h.header, forms(ids, secrets)[0]); got != want || reason != why {
					t.Errorf("by the definition %.80q, %q: %q, %d; want %q, %d", h.header, ids, got, reason, want, why)
				}
			}
		}
	}
}

// TestAuthForm is of P15.3: each form without a header.
func TestAuthForm(t *testing.T) {
	r := made(t, few()...)
	secretOf := map[string]string{"a": "s:", "b:%+": "%3A+:&=", "a2": "s:", "A": "s", "%61": "s:", "a:s": ":"}
	in := map[string]int{}
	for _, ids := range idLists() {
		for _, secrets := range secretLists() {
			want, why := "", api.InvalidClient
			switch {
			case len(ids) > 1 || len(secrets) > 1:
				why = api.InvalidRequest
			case len(ids) == 1 && ids[0] == "p" && len(secrets) == 0:
				want, why = "p", api.WhyNone
			case len(ids) == 1 && secretOf[ids[0]] != "" && len(secrets) == 1 && secretOf[ids[0]] == secrets[0]:
				want, why = ids[0], api.WhyNone
			}
			in[want]++
			for _, form := range forms(ids, secrets) {
				if got, reason := r.Auth("", form); got != want || reason != why {
					t.Errorf("Auth of %q: %q, %d; want %q, %d", form, got, reason, want, why)
				}
				if got, reason := authOf(few(), "", form); got != want || reason != why {
					t.Errorf("by the definition %q: %q, %d; want %q, %d", form, got, reason, want, why)
				}
			}
		}
	}
	for _, c := range few() {
		if in[c.Id] != 1 {
			t.Errorf("%q is let in %d times", c.Id, in[c.Id])
		}
	}
}

// TestAuthLong is of P15.3: forms of many pairs, headers of many bytes.
func TestAuthLong(t *testing.T) {
	r := made(t, few()...)
	var form []api.Pair
	for k := range 5000 {
		form = append(form, api.Pair{Name: fmt.Sprint("n", k), Value: "a"})
	}
	id, secret := api.Pair{Name: idName, Value: "a"}, api.Pair{Name: secretName, Value: "s:"}
	for _, c := range []struct {
		header string
		form   []api.Pair
		id     string
		why    api.Why
	}{
		{"", form, "", api.InvalidClient},
		{"", append(slices.Clone(form), id, secret), "a", api.WhyNone},
		{"", slices.Concat([]api.Pair{id}, form, []api.Pair{secret}), "a", api.WhyNone},
		{"", slices.Concat([]api.Pair{id}, form, []api.Pair{secret, id}), "", api.InvalidRequest},
		{"", slices.Concat([]api.Pair{secret}, form, []api.Pair{secret}), "", api.InvalidRequest},
		{headerOf("a", "s:"), form, "a", api.WhyNone},
		{headerOf("a", "s:"), slices.Concat(form, []api.Pair{id}), "a", api.WhyNone},
		{headerOf("a", "s:"), slices.Concat([]api.Pair{id}, form, []api.Pair{id}), "", api.InvalidRequest},
		{headerOf("a", "s:"), slices.Concat(form, []api.Pair{{Name: secretName}}), "", api.InvalidRequest},
		{headerOf("a", "s:"), slices.Concat(form, []api.Pair{{Name: idName}}), "", api.InvalidRequest},
		{"", slices.Repeat([]api.Pair{id}, 256), "", api.InvalidRequest},
		{"", slices.Repeat([]api.Pair{id}, 257), "", api.InvalidRequest},
		{"", append(slices.Repeat([]api.Pair{secret}, 257), id), "", api.InvalidRequest},
		{"", slices.Repeat([]api.Pair{id, secret}, 1<<16+1), "", api.InvalidRequest},
		{basic(strings.Repeat("a", 1<<20)), nil, "", api.InvalidClient},
		{basic(strings.Repeat(":", 1<<20)), nil, "", api.InvalidClient},
		{"Basic " + strings.Repeat("=", 1<<20), nil, "", api.InvalidClient},
		{strings.Repeat("Basic ", 1<<18), nil, "", api.InvalidClient},
		{basic("a:" + strings.Repeat("%73", 1<<18)), nil, "", api.InvalidClient},
		{basic(strings.Repeat("%61", 1<<18) + ":s:"), nil, "", api.InvalidClient},
	} {
		if got, why := r.Auth(c.header, c.form); got != c.id || why != c.why {
			t.Errorf("%.80q, %d pairs: %q, %d; want %q, %d", c.header, len(c.form), got, why, c.id, c.why)
		}
	}
}

// TestAuthByChance is of P15.3: headers and forms by chance, against the definition.
func TestAuthByChance(t *testing.T) {
	chance := rand.New(rand.NewSource(153))
	l := few()
	r := made(t, l...)
	of := func(l ...string) string { return l[chance.Intn(len(l))] }
	in := 0
	for range 200000 {
		header := ""
		if chance.Intn(4) > 0 {
			body := of("a", "%61", "p", "A", "a2", "b%3A%25%2B", "%2561", "a%3As", "c", "", "%", "a%3", "+", "\xff") + of(":", ":", ":", ":", "", "::", "%3A") + of("s:", "s%3A", "s", "%73:", ":", "%3A", "%253A%2B%3A%26%3D", "", "%4", "s%", " s", "s: ")
			header = of("Basic ", "Basic ", "Basic ", "Basic ", "Basic ", "Basic ", "basic ", "Basic", "Basic  ") + base64.StdEncoding.EncodeToString([]byte(body))
			if chance.Intn(8) == 0 {
				at := chance.Intn(len(header))
				header = header[:at] + of("", "A", "=", "B", "\xff", "+", "/", "-", " ", "Q") + header[at+chance.Intn(2):]
			}
		}
		var form []api.Pair
		for range chance.Intn(4) {
			form = append(form, api.Pair{Name: of(idName, secretName, idName, secretName, "x", "", "client_ID"), Value: of("a", "p", "A", "a2", "b:%+", "s:", "s", "%3A+:&=", ":", "", "c", "%61", "a:s")})
		}
		want, why := authOf(l, header, form)
		if got, reason := r.Auth(header, form); got != want || reason != why {
			t.Fatalf("Auth(%q, %q): %q, %d; want %q, %d", header, form, got, reason, want, why)
		}
		if why == api.WhyNone {
			in++
		}
	}
	if in < 1000 {
		t.Errorf("%d are let in", in)
	}
}

// TestLetIn is of P15.5: by the header made of the secret one is let in, by another one nobody is.
func TestLetIn(t *testing.T) {
	secrets := []string{"!", "~", "s", "S", "s:", ":s", ":", "::", "%", "%3A", "%3a", "+", "%2B", "%20", "a+b", "=", "&", "#", "/", "?", "\"", "\\", "*-._", "ss", strings.Repeat("s", maxText), strings.Repeat("s", maxText-1), strings.Repeat("~", maxText), strings.Repeat("s", maxText-1) + "t", "t" + strings.Repeat("s", maxText-1)}
	ids := []string{"a", "A", "!", ":", "a:", "%", "%61", "+", "&", strings.Repeat("~", maxId), strings.Repeat("a", maxId)}
	for _, secret := range secrets {
		var l []api.Client
		for k, id := range ids {
			l = append(l, api.Client{Id: id, Secret: secret})
			if k%2 == 1 {
				l[k].Secret = "none"
			}
		}
		l = append(l, api.Client{Id: "public", Public: true})
		r := made(t, l...)
		for _, id := range append(slices.Clone(ids), "public", "nobody", "", "a+") {
			for _, other := range append(slices.Clone(secrets), "", " ", "none", "\xff", secret+" ", secret+"\x00", strings.Repeat(secret, 2)) {
				at := slices.IndexFunc(l, func(c api.Client) bool { return c.Id == id })
				want, why := "", api.InvalidClient
				if at >= 0 && !l[at].Public && l[at].Secret == other {
					want, why = id, api.WhyNone
				}
				if got, reason := r.Auth(roll.Header(id, other), nil); got != want || reason != why {
					t.Errorf("%q shows %q: %q, %d; want %q, %d", id, other, got, reason, want, why)
				}
				form := []api.Pair{{Name: secretName, Value: other}, {Name: idName, Value: id}}
				if got, reason := r.Auth("", form); got != want || reason != why {
					t.Errorf("%q: %q, %d; want %q, %d", form, got, reason, want, why)
				}
			}
		}
	}
}

// TestNearSecrets is of P15.5: secrets that differ in one byte, at each place, or in their length.
func TestNearSecrets(t *testing.T) {
	for _, n := range []int{1, 2, 3, 63, 64, 65, 127, maxText} {
		secret := strings.Repeat("m", n)
		r := made(t, api.Client{Id: "a", Secret: secret})
		hold := func(other string) {
			t.Helper()
			if id, why := r.Auth(roll.Header("a", other), nil); id != "" || why != api.InvalidClient {
				t.Errorf("%q for %q: %q, %d", other, secret, id, why)
			}
			if id, why := r.Auth("", []api.Pair{{Name: idName, Value: "a"}, {Name: secretName, Value: other}}); id != "" || why != api.InvalidClient {
				t.Errorf("%q for %q: %q, %d", other, secret, id, why)
			}
		}
		for at := range n {
			for b := range 256 {
				if b != 'm' {
					hold(secret[:at] + string([]byte{byte(b)}) + secret[at+1:])
				}
			}
			hold(secret[:at])
			hold(secret + secret[:at+1])
		}
		if id, why := r.Auth(roll.Header("a", secret), nil); id != "a" || why != api.WhyNone {
			t.Errorf("%q: %q, %d", secret, id, why)
		}
	}
}

// TestNearHeaders is of P15.3 and P15.5: a header that is changed, cut or longer at any place, against the definition.
func TestNearHeaders(t *testing.T) {
	l := few()
	r := made(t, l...)
	hold := func(header string) {
		t.Helper()
		want, why := authOf(l, header, nil)
		if got, reason := r.Auth(header, nil); got != want || reason != why {
			t.Errorf("Auth(%q): %q, %d; want %q, %d", header, got, reason, want, why)
		}
	}
	for _, c := range l {
		header := headerOf(c.Id, c.Secret)
		for at := range len(header) {
			for b := range 256 {
				s := string([]byte{byte(b)})
				hold(header[:at] + s + header[at+1:])
				hold(header[:at] + s + header[at:])
			}
			hold(header[:at])
			hold(header[at:])
			hold(header[:at] + header[at+1:])
		}
		for b := range 256 {
			hold(header + string([]byte{byte(b)}))
		}
	}
}

// TestRedirect is of P15.4.
func TestRedirect(t *testing.T) {
	long := strings.Repeat("u", maxText)
	r := made(t,
		api.Client{Id: "none", Secret: "s"},
		api.Client{Id: "one", Secret: "s", Redirects: []string{"u"}},
		api.Client{Id: "two", Secret: "s", Redirects: []string{"v", "u"}},
		api.Client{Id: "four", Public: true, Redirects: []string{"http://a/?b=c", "v", long, "!"}},
		api.Client{Id: "only", Public: true, Redirects: []string{long}},
	)
	for _, c := range []struct {
		id, uri, want string
		ok            bool
	}{
		{"one", "u", "u", true}, {"one", "", "u", true},
		{"two", "u", "u", true}, {"two", "v", "v", true},
		{"four", "http://a/?b=c", "http://a/?b=c", true}, {"four", "v", "v", true}, {"four", long, long, true}, {"four", "!", "!", true},
		{"only", "", long, true}, {"only", long, long, true},
		{"none", "", "", false}, {"none", "u", "", false},
		{"two", "", "", false}, {"four", "", "", false},
		{"one", "v", "", false}, {"one", "U", "", false}, {"one", "uu", "", false}, {"one", "u ", "", false}, {"one", "u#", "", false}, {"one", "u/", "", false}, {"one", " ", "", false}, {"one", "\x00", "", false}, {"one", "\xff", "", false}, {"one", "one", "", false},
		{"two", "uv", "", false}, {"two", "v u", "", false}, {"two", "http://a/?b=c", "", false},
		{"four", "http://a/", "", false}, {"four", "http://a/?b=", "", false}, {"four", "http://a/?b=cd", "", false}, {"four", long + "u", "", false}, {"four", long[1:], "", false}, {"four", "u", "", false},
		{"nobody", "u", "", false}, {"nobody", "", "", false}, {"", "", "", false}, {"", "u", "", false}, {"One", "u", "", false}, {"one ", "", "", false},
		{"one", strings.Repeat("u", 1<<16), "", false}, {strings.Repeat("o", 1<<16), "", "", false},
	} {
		if got, ok := r.Redirect(c.id, c.uri); got != c.want || ok != c.ok {
			t.Errorf("Redirect(%.80q, %.80q): %q, %v; want %q, %v", c.id, c.uri, got, ok, c.want, c.ok)
		}
	}
	// Of one to four, each by its text, none but the only one by the empty text.
	uris := []string{"d", "a", "c", "b"}
	for count := range len(uris) + 1 {
		r := made(t, api.Client{Id: "a", Secret: "s", Redirects: uris[:count]})
		for k, uri := range uris {
			got, ok := r.Redirect("a", uri)
			if ok != (k < count) || ok && got != uri || !ok && got != "" {
				t.Errorf("Redirect(%q) of %q: %q, %v", uri, uris[:count], got, ok)
			}
		}
		got, ok := r.Redirect("a", "")
		if ok != (count == 1) || count == 1 && got != "d" || count != 1 && got != "" {
			t.Errorf("Redirect of none of %q: %q, %v", uris[:count], got, ok)
		}
	}
}

// TestScope is of P15.4.
func TestScope(t *testing.T) {
	r := made(t,
		api.Client{Id: "none", Secret: "s"},
		api.Client{Id: "one", Secret: "s", Scopes: []string{"r"}},
		api.Client{Id: "three", Public: true, Scopes: []string{"r", "w", "x"}},
		api.Client{Id: "full", Public: true, Scopes: words(maxScopes, 2)},
	)
	all := []string{"r", "w", "x"}
	for _, c := range []struct {
		id          string
		asked, want []string
		ok          bool
	}{
		{"three", nil, all, true}, {"three", []string{}, all, true},
		{"three", []string{"r"}, []string{"r"}, true}, {"three", []string{"w"}, []string{"w"}, true}, {"three", []string{"x"}, []string{"x"}, true},
		{"three", []string{"x", "r"}, []string{"r", "x"}, true}, {"three", []string{"x", "w", "r"}, all, true}, {"three", all, all, true},
		{"three", []string{"w", "w"}, []string{"w"}, true}, {"three", []string{"x", "r", "x", "r", "x"}, []string{"r", "x"}, true},
		// What is no word is passed over.
		{"three", []string{""}, all, true}, {"three", []string{"", " ", "\"", "\\", "\xff", "r w", strings.Repeat("r", 65)}, all, true}, {"three", []string{"", "w", "\x7f"}, []string{"w"}, true},
		{"three", []string{"y"}, nil, false}, {"three", []string{"r", "y"}, nil, false}, {"three", []string{"r", "w", "x", "y"}, nil, false}, {"three", []string{"a", "r"}, nil, false}, {"three", []string{"R"}, nil, false}, {"three", []string{"rr"}, nil, false}, {"three", []string{"y", "y"}, nil, false}, {"three", []string{"", "y"}, nil, false},
		{"one", nil, []string{"r"}, true}, {"one", []string{"r", "r"}, []string{"r"}, true}, {"one", []string{"w"}, nil, false}, {"one", []string{"r", "w"}, nil, false},
		{"none", nil, nil, true}, {"none", []string{""}, nil, true}, {"none", []string{"r"}, nil, false}, {"none", []string{"none"}, nil, false},
		{"full", nil, words(maxScopes, 2), true}, {"full", words(maxScopes, 2), words(maxScopes, 2), true}, {"full", slices.Repeat(words(3, 2), 2000), words(3, 2), true}, {"full", words(maxScopes+1, 2), nil, false}, {"full", words(1<<12, 4), nil, false}, {"full", make([]string, 1<<16), words(maxScopes, 2), true},
		{"nobody", nil, nil, false}, {"nobody", []string{}, nil, false}, {"nobody", []string{"r"}, nil, false}, {"", nil, nil, false}, {"", []string{""}, nil, false}, {"One", nil, nil, false}, {"one ", nil, nil, false}, {strings.Repeat("o", 1<<16), nil, nil, false},
	} {
		if got, ok := r.Scope(c.id, c.asked); !slices.Equal(got, c.want) || ok != c.ok {
			t.Errorf("Scope(%.80q, %.300q): %q, %v; want %q, %v", c.id, fmt.Sprint(c.asked), got, ok, c.want, c.ok)
		}
	}
}

// TestScopeByParts is of P15.4: each part of some words, asked of clients that have each part of them.
func TestScopeByParts(t *testing.T) {
	words := []string{"a", "b", "c", "d"}
	part := func(bits int) []string {
		var out []string
		for k, word := range words {
			if bits>>k&1 == 1 {
				out = append(out, word)
			}
		}
		return out
	}
	for have := range 1 << len(words) {
		r := made(t, api.Client{Id: "a", Secret: "s", Scopes: part(have)})
		for bits := range 1 << len(words) {
			asked := part(bits)
			slices.Reverse(asked)
			want := part(bits)
			if bits == 0 {
				want = part(have)
			}
			got, ok := r.Scope("a", slices.Concat(asked, []string{""}, asked))
			if bits&^have != 0 {
				if ok || len(got) != 0 {
					t.Errorf("%q of %q: %q, %v", asked, part(have), got, ok)
				}
				continue
			}
			if !ok || !slices.Equal(got, want) {
				t.Errorf("%q of %q: %q, %v; want %q", asked, part(have), got, ok, want)
			}
		}
	}
}

// TestMay is of P15.4.
func TestMay(t *testing.T) {
	all := []string{codeGrant, clientGrant, refreshGrant}
	others := []string{"", " ", "password", "implicit", "Refresh_token", "refresh_token ", "refresh", "authorization_cod", "authorization_codes", "code", "\xff", "\x00", "s", "u", "a", codeGrant + " " + refreshGrant, strings.Repeat("r", 1<<16)}
	for _, public := range []bool{false, true} {
		for _, grants := range grantsOf(public) {
			c := api.Client{Id: "a", Secret: "s", Redirects: []string{"u", "password"}, Scopes: []string{"implicit", "password"}, Grants: grants}
			if public {
				c.Public, c.Secret = true, ""
			}
			r := made(t, c, api.Client{Id: "z", Secret: "s", Grants: all})
			for _, grant := range all {
				if got := r.May("a", grant); got != slices.Contains(grants, grant) {
					t.Errorf("May(%q) of %q: %v", grant, grants, got)
				}
				if !r.May("z", grant) {
					t.Errorf("May(%q) of all: false", grant)
				}
				for _, id := range []string{"", "b", "A", "a ", "aa", "\xff"} {
					if r.May(id, grant) {
						t.Errorf("May(%q, %q): true", id, grant)
					}
				}
			}
			for _, grant := range others {
				if r.May("a", grant) || r.May("z", grant) || r.May("", grant) {
					t.Errorf("May(%.80q) of %q: true", grant, grants)
				}
			}
		}
	}
}

// texts are some, of memory that can be written over.
type texts struct {
	memory []byte
	was    string
}

func newTexts() *texts { return &texts{memory: make([]byte, 2000)} }

// put answers s, of that memory.
func (m *texts) put(s string) string {
	if s == "" {
		return ""
	}
	at := len(m.was)
	copy(m.memory[at:], s)
	m.was += s
	return unsafe.String(&m.memory[at], len(s))
}

// putAll answers these texts, of that memory, in a list that has room behind its end.
func (m *texts) putAll(l []string) []string {
	var out []string
	for _, s := range l {
		out = append(out, m.put(s))
	}
	return append(out, m.put("behind the end"), m.put("and more"))[:len(l)]
}

// spoil holds the memory against what was put there, and writes it over.
func (m *texts) spoil(t *testing.T) {
	t.Helper()
	if string(m.memory[:len(m.was)]) != m.was || strings.Trim(string(m.memory[len(m.was):]), "\x00") != "" {
		t.Errorf("changed: %q", m.memory)
	}
	for i := range m.memory {
		m.memory[i] = '!'
	}
}

// rich are clients of all that a client can have.
func rich() []api.Client {
	return []api.Client{
		{Id: "b", Secret: "sb:", Redirects: []string{"ub"}, Scopes: []string{"r", "w"}, Grants: []string{codeGrant, clientGrant, refreshGrant}},
		{Id: "p", Public: true, Redirects: []string{"up2", "up1"}, Scopes: []string{"q", "r"}, Grants: []string{codeGrant, refreshGrant}},
		{Id: "a", Secret: "sa", Redirects: []string{"u4", "u3", "u2", "u1"}, Scopes: []string{"x"}, Grants: []string{clientGrant}},
		{Id: "e", Secret: "se"},
	}
}

// cloned answers these clients in memory of their own.
func cloned(l []api.Client) []api.Client {
	var out []api.Client
	of := func(l []string) []string {
		var out []string
		for _, s := range l {
			out = append(out, strings.Clone(s))
		}
		return out
	}
	for _, c := range l {
		out = append(out, api.Client{Id: strings.Clone(c.Id), Secret: strings.Clone(c.Secret), Public: c.Public, Redirects: of(c.Redirects), Scopes: of(c.Scopes), Grants: of(c.Grants)})
	}
	return out
}

// TestMemoryNew is of P15.6: clients that are handed in, their texts, their lists and the room behind these aren't changed, and may be written over behind the call.
func TestMemoryNew(t *testing.T) {
	for count := 0; count <= len(rich()); count++ {
		m := newTexts()
		var l []api.Client
		for _, c := range rich() {
			l = append(l, api.Client{Id: m.put(c.Id), Secret: m.put(c.Secret), Public: c.Public, Redirects: m.putAll(c.Redirects), Scopes: m.putAll(c.Scopes), Grants: m.putAll(c.Grants)})
		}
		behind := func(l []string) []string { return l[:len(l)+2] }
		whole := func() []api.Client {
			var out []api.Client
			for _, c := range l {
				c.Redirects, c.Scopes, c.Grants = behind(c.Redirects), behind(c.Scopes), behind(c.Grants)
				out = append(out, c)
			}
			return cloned(out)
		}
		was := whole()
		r := made(t, l[:count]...)
		if !reflect.DeepEqual(whole(), was) {
			t.Errorf("%v; was %v", whole(), was)
		}
		m.spoil(t)
		for _, c := range l {
			for _, texts := range [][]string{behind(c.Redirects), behind(c.Scopes), behind(c.Grants)} {
				for k := range texts {
					texts[k] = "spoilt"
				}
			}
		}
		clear(l)
		check(t, r, rich()[:count])
	}
	// Where there is none, nothing has changed either.
	l := append(cloned(rich()), api.Client{Id: "z", Secret: "s", Scopes: []string{"b", "a", "a"}, Redirects: []string{"v", "u", "u"}, Grants: []string{refreshGrant, codeGrant, codeGrant}})
	was := cloned(l)
	if r, e := roll.New(l...); r != nil || e != api.ErrArg || !reflect.DeepEqual(l, was) {
		t.Errorf("%v, %d: %v", r, e, l)
	}
	for k := range 3 {
		c := l[4:5:5]
		switch k {
		case 1:
			c[0].Scopes = nil
		case 2:
			c[0].Redirects = nil
		}
		was := cloned(c)
		if r, e := roll.New(c...); r != nil || e != api.ErrArg || !reflect.DeepEqual(cloned(c), was) {
			t.Errorf("%v, %d: %v", r, e, c)
		}
	}
}

// TestMemoryAuth is of P15.6: a header and a form that are handed in aren't changed, and the Id that is answered isn't of their memory.
func TestMemoryAuth(t *testing.T) {
	r := made(t, rich()...)
	for _, c := range []struct {
		header string
		form   []api.Pair
		id     string
		why    api.Why
		within int // first pairs that are handed in; the others stand behind the list's end
	}{
		{headerOf("b", "sb:"), []api.Pair{{Name: "x", Value: "y"}, {Name: secretName, Value: "behind"}}, "b", api.WhyNone, 1},
		{headerOf("b", "sb:"), []api.Pair{{Name: idName, Value: "b"}, {Name: idName, Value: "behind"}}, "b", api.WhyNone, 1},
		{headerOf("b", "sb:"), []api.Pair{{Name: idName, Value: "b"}, {Name: idName, Value: "b"}}, "", api.InvalidRequest, 2},
		{"", []api.Pair{{Name: idName, Value: "a"}, {Name: secretName, Value: "sa"}, {Name: idName, Value: "behind"}}, "a", api.WhyNone, 2},
		{"", []api.Pair{{Name: idName, Value: "p"}, {Name: secretName, Value: "behind"}}, "p", api.WhyNone, 1},
		{"", []api.Pair{{Name: idName, Value: "a"}, {Name: secretName, Value: "sa"}}, "", api.InvalidClient, 1},
	} {
		m := newTexts()
		var form []api.Pair
		for _, p := range c.form {
			form = append(form, api.Pair{Name: m.put(p.Name), Value: m.put(p.Value)})
		}
		id, why := r.Auth(m.put(c.header), form[:c.within])
		if !slices.Equal(form, c.form) {
			t.Errorf("%q; was %q", form, c.form)
		}
		m.spoil(t)
		clear(form)
		if id != c.id || why != c.why {
			t.Errorf("%q, %q: %q, %d; want %q, %d", c.header, c.form, id, why, c.id, c.why)
		}
		check(t, r, rich())
	}
	m := newTexts()
	header := roll.Header(m.put("b"), m.put("sb:"))
	m.spoil(t)
	if header != headerOf("b", "sb:") {
		t.Errorf("%q", header)
	}
}

// TestMemoryAsked is of P15.6: what is handed in to the calls that ask for something of a client isn't changed, and what they answer isn't of that memory.
func TestMemoryAsked(t *testing.T) {
	r := made(t, rich()...)
	m := newTexts()
	found, ok := r.Find(m.put("b"))
	m.spoil(t)
	if !ok || !same(found, rich()[0]) {
		t.Errorf("%v, %v", found, ok)
	}

	m = newTexts()
	uri, one := r.Redirect(m.put("a"), m.put("u2"))
	only, empty := r.Redirect(m.put("b"), "")
	m.spoil(t)
	if uri != "u2" || !one || only != "ub" || !empty {
		t.Errorf("%q, %v; %q, %v", uri, one, only, empty)
	}

	m = newTexts()
	if !r.May(m.put("b"), m.put(clientGrant)) || r.May(m.put("p"), m.put(clientGrant)) {
		t.Error("May")
	}
	m.spoil(t)

	for _, c := range []struct {
		id     string
		within int // first words that are handed in
		want   []string
		ok     bool
	}{{"b", 3, []string{"r", "w"}, true}, {"b", 1, []string{"w"}, true}, {"b", 0, []string{"r", "w"}, true}, {"a", 3, nil, false}, {"a", 0, []string{"x"}, true}} {
		m := newTexts()
		asked := m.putAll([]string{"w", "r", "w"})
		whole := asked[:5]
		set, ok := r.Scope(m.put(c.id), asked[:c.within])
		if !slices.Equal(whole, []string{"w", "r", "w", "behind the end", "and more"}) {
			t.Errorf("%q", whole)
		}
		m.spoil(t)
		clear(whole)
		if !slices.Equal(set, c.want) || ok != c.ok {
			t.Errorf("%q, %d: %q, %v; want %q, %v", c.id, c.within, set, ok, c.want, c.ok)
		}
	}
	check(t, r, rich())
}

// overwrite writes over texts that were answered, and over their lists, and puts more behind these.
func overwrite(lists ...[]string) {
	for _, l := range lists {
		for k, s := range l {
			overwriteText(s)
			l[k] = "spoilt"
		}
		_ = append(l, "behind the end", "and more")
	}
}

func overwriteText(s string) {
	for k := range len(s) {
		unsafe.Slice(unsafe.StringData(s), len(s))[k] = '!'
	}
}

// TestMemoryOut is of P15.6: what is answered is new memory, and may be written over, with what it embeds; no other answer changes by it.
func TestMemoryOut(t *testing.T) {
	r, again := made(t, cloned(rich())...), made(t, cloned(rich())...)
	answers := func(r *roll.Roll) [][]string {
		out := [][]string{r.Ids()}
		for _, c := range rich() {
			found, _ := r.Find(c.Id)
			out = append(out, []string{found.Id}, []string{found.Secret}, found.Redirects, found.Scopes, found.Grants)
			scopes, _ := r.Scope(c.Id, nil)
			out = append(out, scopes)
			asked, _ := r.Scope(c.Id, slices.Clone(c.Scopes))
			out = append(out, asked)
			for _, uri := range append(slices.Clone(c.Redirects), "") {
				got, _ := r.Redirect(c.Id, uri)
				out = append(out, []string{got})
			}
			byHeader, _ := r.Auth(headerOf(c.Id, c.Secret), nil)
			named, _ := r.Auth(headerOf(c.Id, c.Secret), []api.Pair{{Name: idName, Value: strings.Clone(c.Id)}})
			byForm, _ := r.Auth("", []api.Pair{{Name: idName, Value: strings.Clone(c.Id)}, {Name: secretName, Value: strings.Clone(c.Secret)}})
			public, _ := r.Auth("", []api.Pair{{Name: idName, Value: strings.Clone(c.Id)}})
			out = append(out, []string{byHeader}, []string{named}, []string{byForm}, []string{public}, []string{roll.Header(c.Id, c.Secret)})
		}
		return out
	}
	want := fmt.Sprintf("%q", answers(r))
	for range 3 {
		l, other := answers(r), answers(r)
		for k := range l {
			overwrite(l[k])
			for at := k + 1; at < len(l); at++ {
				if !slices.Equal(l[at], other[at]) {
					t.Fatalf("answer %d shares memory with answer %d: %q", at, k, l[at])
				}
			}
		}
		for _, got := range [][][]string{other, answers(r), answers(again)} {
			if fmt.Sprintf("%q", got) != want {
				t.Errorf("%q; want %s", got, want)
			}
		}
		check(t, r, rich())
		check(t, again, rich())
	}
}

// TestFindLists is of P15.6: of one client that is answered the lists are apart, also in the room behind their ends.
func TestFindLists(t *testing.T) {
	r := made(t, rich()...)
	for _, c := range rich() {
		for k := range 3 {
			got, _ := r.Find(c.Id)
			lists := [][]string{got.Redirects, got.Scopes, got.Grants}
			_ = append(lists[k], "behind", "the", "end", "of", "it")
			for at := range lists[k] {
				lists[k][at] = "spoilt"
			}
			want := [][]string{c.Redirects, c.Scopes, c.Grants}
			for at := range lists {
				if at != k && !slices.Equal(lists[at], want[at]) {
					t.Errorf("%q; want %q", lists[at], want[at])
				}
			}
		}
	}
	check(t, r, rich())
}

// TestNil is of the chapter's word for a nil roll: it answers what one without clients does.
func TestNil(t *testing.T) {
	var none *roll.Roll
	empty := made(t)
	for _, r := range []*roll.Roll{none, empty} {
		if got := r.Ids(); len(got) != 0 {
			t.Errorf("Ids(): %q", got)
		}
		for _, id := range append(oddTexts(), "a", "p") {
			checkNone(t, r, id)
		}
		for _, h := range headers() {
			for _, ids := range idLists() {
				for _, secrets := range secretLists() {
					for _, form := range forms(ids, secrets) {
						want := api.InvalidClient
						if len(ids) > 1 || len(secrets) > 0 {
							want = api.InvalidRequest
						}
						if id, why := r.Auth(h.header, form); id != "" || why != want {
							t.Fatalf("Auth(%.80q, %q): %q, %d; want %d", h.header, form, id, why, want)
						}
					}
				}
			}
		}
		for _, ids := range idLists() {
			for _, secrets := range secretLists() {
				for _, form := range forms(ids, secrets) {
					want := api.InvalidClient
					if len(ids) > 1 || len(secrets) > 1 {
						want = api.InvalidRequest
					}
					if id, why := r.Auth("", form); id != "" || why != want {
						t.Errorf("Auth of %q: %q, %d; want %d", form, id, why, want)
					}
				}
			}
		}
	}
}

// TestAgain is of P15.1 to P15.4: no call changes what another one answers.
func TestAgain(t *testing.T) {
	r := made(t, rich()...)
	for range 3 {
		check(t, r, rich())
		for _, id := range oddTexts() {
			if id != "a" && id != "b" && id != "e" && id != "p" {
				checkNone(t, r, id)
			}
		}
		r.Auth(headerOf("a", "x"), nil)
		r.Auth("", []api.Pair{{Name: idName, Value: "new"}, {Name: secretName, Value: "x"}})
		r.Scope("a", []string{"y"})
		r.Redirect("a", "new")
		r.May("a", "new")
		if r, e := roll.New(append(rich(), rich()...)...); r != nil || e != api.ErrArg {
			t.Errorf("%v, %d", r, e)
		}
	}
}
