package grant

import (
	"slices"
	"strings"

	"signet/api"
	"signet/pkce"
)

// family is one of a book.
type family struct {
	api.Family
}

// token answers the access or refresh token of that kind and serial number as it stands, if there is one.
func (f *family) token(kind, serial int) *api.Issued {
	if serial <= codeSerial || serial > len(f.Tokens) {
		return nil
	}
	t := &f.Tokens[serial-1]
	if t.Kind != kind {
		return nil
	}
	return t
}

// has tells whether the family has a token of that kind and serial number, be it a code.
func (f *family) has(kind, serial int) bool {
	if kind == api.KCode {
		return serial == codeSerial && f.Code != noCode
	}
	return f.token(kind, serial) != nil
}

// isShownBy tells whether the family's challenge is the verifier's. Behind none nobody has to show anything, and nobody may.
func (f *family) isShownBy(verifier string) bool {
	if f.Challenge == "" {
		return verifier == ""
	}
	return pkce.Check(f.Challenge, f.Method, verifier)
}

// issued answers the tokens that it puts behind the others: one for a scope and, if it is asked for, one by which more may be had.
func (f *family) issued(set []string, refresh bool) api.Answer {
	a := api.Answer{Scope: cloned(set), Access: f.add(api.KAccess, set)}
	if refresh {
		a.Refresh = f.add(api.KRefresh, f.Scope)
	}
	return a
}

// add answers the serial number of the token that it puts behind the others.
func (f *family) add(kind int, set []string) int {
	f.Tokens = append(f.Tokens, api.Issued{Kind: kind, Scope: cloned(set)})
	return len(f.Tokens)
}

// lease makes an edge one of those that may know of the family.
func (f *family) lease(edge int) {
	at, known := slices.BinarySearch(f.Leases, edge)
	if !known {
		f.Leases = slices.Insert(f.Leases, at, edge)
	}
}

// copied answers a family in memory of its own.
func copied(f api.Family) api.Family {
	f.Id, f.Client, f.User = strings.Clone(f.Id), strings.Clone(f.Client), strings.Clone(f.User)
	f.Scope = cloned(f.Scope)
	f.Redirect, f.Challenge, f.Method = strings.Clone(f.Redirect), strings.Clone(f.Challenge), strings.Clone(f.Method)
	f.Tokens = slices.Clone(f.Tokens)
	for k, t := range f.Tokens {
		f.Tokens[k].Scope = cloned(t.Scope)
	}
	f.Leases = slices.Clone(f.Leases)
	return f
}

// cloned answers these texts in memory of their own.
func cloned(l []string) []string {
	var out []string
	for _, s := range l {
		out = append(out, strings.Clone(s))
	}
	return out
}
