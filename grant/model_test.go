package grant_test

import (
	"crypto/sha256"
	"encoding/base64"
	"fmt"
	"reflect"
	"regexp"
	"slices"
	"sort"
	"strings"
	"testing"

	"signet/api"
	"signet/grant"
)

const (
	maxFamilies  = 256
	maxIssued    = 8
	maxText      = 128
	maxId        = 32
	maxScopes    = 32
	maxScopeText = 128
	maxSerial    = 1099511627776
	maxEdge      = 31

	verifier = "dBjftJeZ4CVP-mB92K27uhbUJU1p1r_wW1gFWFOEjXk"
	digest   = "E9Melhoa2OwvFrEMTJguCHaoeK1t8URWbuGJSstw-cM" // of the verifier
)

// The face, as the chapter has it.
var (
	_ func(room int) (*grant.Book, api.Errno)           = grant.New
	_ func(b *grant.Book, c api.Command) api.Answer     = (*grant.Book).Do
	_ func(b *grant.Book) int                           = (*grant.Book).Room
	_ func(b *grant.Book) int                           = (*grant.Book).Count
	_ func(b *grant.Book, id string) (api.Family, bool) = (*grant.Book).Family
	_ func(b *grant.Book) []api.Family                  = (*grant.Book).Families
	_ func(b *grant.Book) []string                      = (*grant.Book).Pending
	_ func(b *grant.Book, f api.Family) api.Errno       = (*grant.Book).Put
	_ func(b *grant.Book, id string) api.Errno          = (*grant.Book).Drop
	_ func(b *grant.Book) *grant.Book                   = (*grant.Book).Copy
	_ func(c api.Command) bool                          = grant.May
	_ func(f api.Family) bool                           = grant.Right
)

// The chapters' words, as patterns.
var (
	isId       = regexp.MustCompile(`\A[0-9A-Za-z_-]{1,32}\z`)
	isWord     = regexp.MustCompile(`\A[!#-\[\]-~]{1,64}\z`)
	isVerifier = regexp.MustCompile(`\A[0-9A-Za-z._~-]{43,128}\z`)
	isDigest   = regexp.MustCompile(`\A[0-9A-Za-z_-]{43}\z`)
)

// namesOf is the chapter's table: what each kind names, besides the family.
var namesOf = map[int][]string{
	1: {"Client", "User", "Scope", "Redirect", "Challenge", "Method"},
	2: {"Client", "Redirect", "Verifier", "Refresh"},
	3: {"Client", "Serial", "Scope"},
	4: {"Client", "Scope"},
	5: {"Client", "Serial", "Token"},
	6: {"Serial", "Token", "Edge"},
	7: nil,
}

// isSet is chapter 6's word for a list that is a set.
func isSet(l []string) bool {
	for k, word := range l {
		if !isWord.MatchString(word) || k > 0 && strings.Compare(l[k-1], word) >= 0 {
			return false
		}
	}
	return true
}

// isFit is the chapter's word for a scope.
func isFit(l []string) bool {
	return len(l) <= maxScopes && isSet(l) && len(strings.Join(l, " ")) <= maxScopeText
}

// isWithin tells whether each word of a is one of b.
func isWithin(a, b []string) bool {
	for _, word := range a {
		if !slices.Contains(b, word) {
			return false
		}
	}
	return true
}

// isChallenge is chapter 7's word for a challenge by a method.
func isChallenge(challenge, method string) bool {
	switch method {
	case "plain":
		return isVerifier.MatchString(challenge)
	case "S256":
		_, err := base64.RawURLEncoding.Strict().DecodeString(challenge)
		return isDigest.MatchString(challenge) && err == nil
	}
	return false
}

// isChallengeOf is chapter 7's word for the challenge of a verifier.
func isChallengeOf(challenge, method, by string) bool {
	sum := sha256.Sum256([]byte(by))
	return isVerifier.MatchString(by) && (method == "plain" && challenge == by || method == "S256" && challenge == base64.RawURLEncoding.EncodeToString(sum[:]))
}

// fieldMayBe is the chapter's word for a field that is named.
func fieldMayBe(c api.Command, name string) bool {
	switch name {
	case "Client":
		return c.Client != "" && len(c.Client) <= maxText
	case "User", "Redirect", "Verifier":
		return len(reflect.ValueOf(c).FieldByName(name).String()) <= maxText
	case "Scope":
		return isFit(c.Scope)
	case "Serial":
		return c.Serial >= 0 && c.Serial <= maxSerial
	case "Token":
		return c.Token == 1 || c.Token == 2 || c.Token == 3
	case "Edge":
		return c.Edge >= 0 && c.Edge <= maxEdge
	case "Challenge":
		return c.Challenge == "" || isChallenge(c.Challenge, c.Method)
	case "Method":
		return c.Challenge != "" || c.Method == ""
	}
	return name == "Refresh"
}

// mayBe is the chapter's word for a command.
func mayBe(c api.Command) bool {
	names, ok := namesOf[c.Kind]
	if !ok || !isId.MatchString(c.Family) {
		return false
	}
	all := reflect.ValueOf(c)
	for k := range all.NumField() {
		name, value := all.Type().Field(k).Name, all.Field(k)
		switch {
		case name == "Kind", name == "Family":
		case slices.Contains(names, name):
			if !fieldMayBe(c, name) {
				return false
			}
		case value.Kind() == reflect.Slice:
			if value.Len() > 0 {
				return false
			}
		case !value.IsZero():
			return false
		}
	}
	return true
}

// isRight is the chapter's word for a family.
func isRight(f api.Family) bool {
	for _, s := range []string{f.Client, f.User, f.Redirect, f.Challenge, f.Method} {
		if len(s) > maxText {
			return false
		}
	}
	switch {
	case !isId.MatchString(f.Id), f.Client == "", !isFit(f.Scope), f.Code < 0, f.Code > 2:
		return false
	case f.Code != 0 && f.Challenge != "" && !isChallenge(f.Challenge, f.Method), f.Code != 0 && f.Challenge == "" && f.Method != "":
		return false
	case f.Code == 0 && f.User+f.Redirect+f.Challenge+f.Method != "":
		return false
	case (f.Code == 1) != (len(f.Tokens) == 0), len(f.Tokens) > maxIssued:
		return false
	}
	for _, x := range f.Tokens {
		if x.Kind != 2 && x.Kind != 3 || !isSet(x.Scope) || !isWithin(x.Scope, f.Scope) || x.Kind == 3 && len(x.Scope) != len(f.Scope) || x.Used && x.Kind != 3 {
			return false
		}
	}
	for k, edge := range f.Leases {
		if edge < 0 || edge > maxEdge || k > 0 && f.Leases[k-1] >= edge {
			return false
		}
	}
	return true
}

// model is the chapter's book: families, in the order in which they came.
type model struct {
	room int
	list []api.Family
}

// at answers the place of a family, -1 of none.
func (m *model) at(id string) int {
	return slices.IndexFunc(m.list, func(f api.Family) bool { return f.Id == id })
}

func (m *model) copied() *model {
	out := &model{room: m.room}
	for _, f := range m.list {
		out.list = append(out.list, familyCopy(f))
	}
	return out
}

// has is the chapter's word for a token that is a living family's.
func (m *model) has(id string, kind, serial int) bool {
	at := m.at(id)
	switch {
	case at < 0, m.list[at].Revoked:
		return false
	case kind == 1:
		return serial == 0 && m.list[at].Code != 0
	}
	return serial >= 1 && serial <= len(m.list[at].Tokens) && m.list[at].Tokens[serial-1].Kind == kind
}

// do is the chapter's word for what a command does.
func (m *model) do(c api.Command) api.Answer {
	if !mayBe(c) {
		return api.Answer{Why: 1}
	}
	at := m.at(c.Family)
	lives, same := at >= 0 && !m.list[at].Revoked, at >= 0 && m.list[at].Client == c.Client
	var f *api.Family
	if at >= 0 {
		f = &m.list[at]
	}
	switch {
	case c.Kind == 1 || c.Kind == 4:
		if f != nil {
			return api.Answer{Why: 1}
		}
		if len(m.list) >= m.room {
			return api.Answer{Why: 7}
		}
		one := api.Family{Id: c.Family, Client: c.Client, User: c.User, Scope: c.Scope, Redirect: c.Redirect, Challenge: c.Challenge, Method: c.Method}
		a := api.Answer{Scope: c.Scope}
		if c.Kind == 1 {
			one.Code = 1
		} else {
			one.Tokens = []api.Issued{{Kind: 2, Scope: c.Scope}}
			a.Access = 1
		}
		m.list = append(m.list, familyCopy(one))
		return a
	case c.Kind == 2:
		if !lives || !same || f.Code == 0 {
			return api.Answer{Why: 3}
		}
		if f.Code == 2 {
			f.Revoked = true
			return api.Answer{Why: 3}
		}
		if f.Redirect != c.Redirect || f.Challenge == "" && c.Verifier != "" || f.Challenge != "" && !isChallengeOf(f.Challenge, f.Method, c.Verifier) {
			return api.Answer{Why: 3}
		}
		f.Code = 2
		return issuedTo(f, f.Scope, c.Refresh)
	case c.Kind == 3:
		if !lives || !same || !m.has(c.Family, 3, c.Serial) {
			return api.Answer{Why: 3}
		}
		if f.Tokens[c.Serial-1].Used {
			f.Revoked = true
			return api.Answer{Why: 3}
		}
		if !isWithin(c.Scope, f.Scope) {
			return api.Answer{Why: 6}
		}
		if len(f.Tokens) > 6 {
			return api.Answer{Why: 7}
		}
		f.Tokens[c.Serial-1].Used = true
		if len(c.Scope) == 0 {
			return issuedTo(f, f.Scope, true)
		}
		return issuedTo(f, c.Scope, true)
	case c.Kind == 5:
		if same && m.has(c.Family, c.Token, c.Serial) {
			f.Revoked = true
		}
		return api.Answer{Wait: same && f.Revoked}
	case c.Kind == 6:
		if !m.has(c.Family, c.Token, c.Serial) || c.Token == 1 || f.Tokens[c.Serial-1].Used {
			return api.Answer{}
		}
		if !slices.Contains(f.Leases, c.Edge) {
			f.Leases = append(f.Leases, c.Edge)
			sort.Ints(f.Leases)
		}
		return api.Answer{Active: true, Scope: f.Tokens[c.Serial-1].Scope, Client: f.Client, User: f.User}
	}
	if at >= 0 && !lives {
		m.list = slices.Delete(m.list, at, at+1)
	}
	return api.Answer{}
}

// issuedTo is the chapter's word for tokens that are issued.
func issuedTo(f *api.Family, set []string, refresh bool) api.Answer {
	f.Tokens = append(f.Tokens, api.Issued{Kind: 2, Scope: slices.Clone(set)})
	a := api.Answer{Access: len(f.Tokens), Scope: set}
	if refresh {
		f.Tokens = append(f.Tokens, api.Issued{Kind: 3, Scope: slices.Clone(f.Scope)})
		a.Refresh = len(f.Tokens)
	}
	return a
}

// put is the chapter's word for Put.
func (m *model) put(f api.Family) api.Errno {
	at := m.at(f.Id)
	switch {
	case !isRight(f):
		return 1
	case at >= 0:
		m.list[at] = familyCopy(f)
	case len(m.list) >= m.room:
		return 8
	default:
		m.list = append(m.list, familyCopy(f))
	}
	return 0
}

// drop is the chapter's word for Drop.
func (m *model) drop(id string) api.Errno {
	at := m.at(id)
	if at < 0 {
		return 7
	}
	m.list = slices.Delete(m.list, at, at+1)
	return 0
}

// familyCopy answers a family whose lists are its own.
func familyCopy(f api.Family) api.Family {
	f.Scope, f.Tokens, f.Leases = slices.Clone(f.Scope), slices.Clone(f.Tokens), slices.Clone(f.Leases)
	for k := range f.Tokens {
		f.Tokens[k].Scope = slices.Clone(f.Tokens[k].Scope)
	}
	return f
}

// familyText tells all of a family, where a list without elements counts as none.
func familyText(f api.Family) string {
	out := fmt.Sprintf("{%q of %q %q for %q, redirect %q, challenge %q %q, code %d, revoked %v, leases %v", f.Id, f.Client, f.User, f.Scope, f.Redirect, f.Challenge, f.Method, f.Code, f.Revoked, f.Leases)
	for _, x := range f.Tokens {
		out += fmt.Sprintf(", token %d %q %v", x.Kind, x.Scope, x.Used)
	}
	return out + "}"
}

// familiesText tells all of some families.
func familiesText(l []api.Family) string {
	var out []string
	for _, f := range l {
		out = append(out, familyText(f))
	}
	return strings.Join(out, "\n")
}

// commandText tells all of a command.
func commandText(c api.Command) string {
	return fmt.Sprintf("{%d %q serial %d token %d client %q user %q scope %q redirect %q challenge %q %q verifier %q refresh %v edge %d}", c.Kind, c.Family, c.Serial, c.Token, c.Client, c.User, c.Scope, c.Redirect, c.Challenge, c.Method, c.Verifier, c.Refresh, c.Edge)
}

// answerText tells all of an answer.
func answerText(a api.Answer) string {
	return fmt.Sprintf("{why %d access %d refresh %d scope %q client %q user %q active %v wait %v}", a.Why, a.Access, a.Refresh, a.Scope, a.Client, a.User, a.Active, a.Wait)
}

// short cuts a text where it is long.
func short(s string) string {
	if len(s) > 600 {
		return fmt.Sprintf("%s and more, %d bytes", s[:600], len(s))
	}
	return s
}

// made answers a book that is surely made.
func made(t *testing.T, room int) *grant.Book {
	t.Helper()
	b, e := grant.New(room)
	if b == nil || e != api.OK {
		t.Fatalf("New(%d): %v, %d", room, b, e)
	}
	return b
}

// sorted answers families, rising by their Ids.
func sorted(l []api.Family) []api.Family {
	out := slices.Clone(l)
	sort.Slice(out, func(a, b int) bool { return strings.Compare(out[a].Id, out[b].Id) < 0 })
	return out
}

// check holds all that a book tells against these families, and so much room.
func check(t *testing.T, b *grant.Book, room int, l []api.Family) {
	t.Helper()
	l = sorted(l)
	if b.Room() != room || b.Count() != len(l) {
		t.Errorf("Room(), Count(): %d, %d; want %d, %d", b.Room(), b.Count(), room, len(l))
	}
	if got, want := familiesText(b.Families()), familiesText(l); got != want {
		t.Errorf("Families():\n%s\nwant\n%s", short(got), short(want))
	}
	var pending []string
	for _, f := range l {
		if f.Revoked {
			pending = append(pending, f.Id)
		}
		if got, ok := b.Family(f.Id); !ok || familyText(got) != familyText(f) {
			t.Errorf("Family(%q): %s, %v; want %s", f.Id, short(familyText(got)), ok, short(familyText(f)))
		}
	}
	if got := b.Pending(); !slices.Equal(got, pending) {
		t.Errorf("Pending(): %q; want %q", got, pending)
	}
	for _, id := range []string{"", "none", "f", "f0", "f1", "f2", "F1", "f1 ", "\x00"} {
		known := slices.ContainsFunc(l, func(f api.Family) bool { return f.Id == id })
		if got, ok := b.Family(id); ok != known || !known && familyText(got) != familyText(api.Family{}) {
			t.Errorf("Family(%q): %s, %v; want %v", id, short(familyText(got)), ok, known)
		}
	}
}

// pair is a book and the chapter's word for it, to which the same is done.
type pair struct {
	t *testing.T
	b *grant.Book
	m *model
}

func newPair(t *testing.T, room int) *pair {
	t.Helper()
	return &pair{t, made(t, room), &model{room: room}}
}

// pairOf answers a pair that has these families.
func pairOf(t *testing.T, room int, l ...api.Family) *pair {
	t.Helper()
	p := newPair(t, room)
	for _, f := range l {
		if e := p.put(f); e != api.OK {
			t.Fatalf("Put(%s): %d", familyText(f), e)
		}
	}
	return p
}

func (p *pair) check() {
	p.t.Helper()
	check(p.t, p.b, p.m.room, p.m.list)
}

func (p *pair) do(c api.Command) api.Answer {
	p.t.Helper()
	got, want := p.b.Do(c), p.m.do(c)
	if answerText(got) != answerText(want) {
		p.t.Errorf("Do(%s): %s; want %s", short(commandText(c)), short(answerText(got)), short(answerText(want)))
	}
	p.check()
	return got
}

func (p *pair) put(f api.Family) api.Errno {
	p.t.Helper()
	got, want := p.b.Put(f), p.m.put(f)
	if got != want {
		p.t.Errorf("Put(%s): %d; want %d", short(familyText(f)), got, want)
	}
	p.check()
	return got
}

func (p *pair) drop(id string) api.Errno {
	p.t.Helper()
	got, want := p.b.Drop(id), p.m.drop(id)
	if got != want {
		p.t.Errorf("Drop(%q): %d; want %d", id, got, want)
	}
	p.check()
	return got
}

// doing holds what a command answers, and what the families are behind it, against what is said, and against the definition.
func doing(t *testing.T, room int, ahead []api.Family, c api.Command, want api.Answer, behind ...api.Family) {
	t.Helper()
	p := pairOf(t, room, ahead...)
	if got := p.do(c); answerText(got) != answerText(want) {
		t.Errorf("Do(%s): %s; want %s", short(commandText(c)), short(answerText(got)), short(answerText(want)))
	}
	check(t, p.b, room, behind)
}

// refusing holds that a command is refused for that reason, and changes nothing.
func refusing(t *testing.T, room int, ahead []api.Family, c api.Command, why api.Why) {
	t.Helper()
	doing(t, room, ahead, c, api.Answer{Why: why}, ahead...)
}
