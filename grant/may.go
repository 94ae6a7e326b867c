package grant

import (
	"slices"
	"strings"

	"signet/api"
	"signet/pkce"
	"signet/scope"
)

const (
	idSigns   = "ABCDEFGHIJKLMNOPQRSTUVWXYZabcdefghijklmnopqrstuvwxyz0123456789-_"
	longestId = 32
)

// fields are some of a command's, besides its kind and its family.
type fields uint

const (
	serialField fields = 1 << iota
	tokenField
	clientField
	userField
	scopeField
	redirectField
	challengeField
	methodField
	verifierField
	refreshField
	edgeField
)

// neverZero are those that aren't zero in a command whose kind names them.
const neverZero = clientField | tokenField

// May tells whether a command may be.
func May(c api.Command) bool {
	may, ok := namedBy(c.Kind)
	has, must := filled(c), may&neverZero
	return ok && has&^may == 0 && has&must == must && isId(c.Family) && fieldsMayBe(c)
}

// Right tells whether a family may come of commands.
func Right(f api.Family) bool {
	return isId(f.Id) && f.Client != "" && areShort(f.Client, f.User, f.Redirect) && isFit(f.Scope) &&
		codeMayBe(f) && tokensMayBe(f.Tokens, f.Scope) && leasesMayBe(f.Leases)
}

// namedBy answers the fields that a kind names, and whether there is such a kind.
func namedBy(kind int) (fields, bool) {
	switch kind {
	case api.CAuthorize:
		return clientField | userField | scopeField | redirectField | challengeField | methodField, true
	case api.CRedeem:
		return clientField | redirectField | verifierField | refreshField, true
	case api.CRefresh:
		return clientField | serialField | scopeField, true
	case api.CIssue:
		return clientField | scopeField, true
	case api.CRevoke:
		return clientField | serialField | tokenField, true
	case api.CLook:
		return serialField | tokenField | edgeField, true
	case api.CDone:
		return 0, true
	}
	return 0, false
}

// filled answers the fields of a command that aren't zero.
func filled(c api.Command) fields {
	return when(c.Serial != 0, serialField) |
		when(c.Token != 0, tokenField) |
		when(c.Client != "", clientField) |
		when(c.User != "", userField) |
		when(len(c.Scope) > 0, scopeField) |
		when(c.Redirect != "", redirectField) |
		when(c.Challenge != "", challengeField) |
		when(c.Method != "", methodField) |
		when(c.Verifier != "", verifierField) |
		when(c.Refresh, refreshField) |
		when(c.Edge != 0, edgeField)
}

func when(holds bool, f fields) fields {
	if holds {
		return f
	}
	return 0
}

// fieldsMayBe tells whether all fields are zero, or such as a kind that names them asks for.
func fieldsMayBe(c api.Command) bool {
	return areShort(c.Client, c.User, c.Redirect, c.Verifier) && isFit(c.Scope) && isChallenge(c.Challenge, c.Method) &&
		isFrom0(c.Serial, api.MaxTime) && isFrom0(c.Token, api.KRefresh) && isEdge(c.Edge)
}

// codeMayBe tells whether a family's code is one, and what hangs on it is as that asks for.
func codeMayBe(f api.Family) bool {
	switch f.Code {
	case noCode:
		return f.User == "" && f.Redirect == "" && f.Challenge == "" && f.Method == "" && len(f.Tokens) > 0
	case freshCode:
		return isChallenge(f.Challenge, f.Method) && len(f.Tokens) == 0
	case spentCode:
		return isChallenge(f.Challenge, f.Method) && len(f.Tokens) > 0
	}
	return false
}

// tokensMayBe tells whether the tokens may be those of a family for such a set.
func tokensMayBe(l []api.Issued, all []string) bool {
	if len(l) > api.MaxIssued {
		return false
	}
	for _, t := range l {
		if !tokenMayBe(t, all) {
			return false
		}
	}
	return true
}

// tokenMayBe tells whether a token may be that of a family for such a set. A set within one that is fit is fit itself.
func tokenMayBe(t api.Issued, all []string) bool {
	switch t.Kind {
	case api.KAccess:
		return !t.Used && isFit(t.Scope) && scope.Within(t.Scope, all)
	case api.KRefresh:
		return slices.Equal(t.Scope, all)
	}
	return false
}

func leasesMayBe(l []int) bool {
	for k, edge := range l {
		if !isEdge(edge) || k > 0 && l[k-1] >= edge {
			return false
		}
	}
	return true
}

// isChallenge tells whether the two may be a command's. They need no bound of their own: what may be a challenge by a method is short.
func isChallenge(challenge, method string) bool {
	if challenge == "" {
		return method == ""
	}
	return pkce.May(challenge, method)
}

// isFit tells whether a scope is fit. How many words it has is asked first, so that a long list isn't gone through in vain.
func isFit(l []string) bool {
	return len(l) <= api.MaxScopes && slices.Equal(l, scope.Set(l...)) && len(scope.Print(l...)) <= api.MaxField
}

func areShort(texts ...string) bool {
	for _, s := range texts {
		if len(s) > api.MaxField {
			return false
		}
	}
	return true
}

// isId tells whether a text is a family's of a right token.
func isId(s string) bool {
	if s == "" || len(s) > longestId {
		return false
	}
	for k := range len(s) {
		if strings.IndexByte(idSigns, s[k]) < 0 {
			return false
		}
	}
	return true
}

func isEdge(n int) bool { return isFrom0(n, api.MaxEdges-1) }

func isFrom0(n, to int) bool { return 0 <= n && n <= to }
