package pkce_test

import (
	"bytes"
	"crypto/sha256"
	"encoding/base64"
	"math/rand"
	"regexp"
	"slices"
	"strings"
	"testing"
	"unsafe"

	"signet/api"
	"signet/pkce"
)

// The chapter's example.
const (
	exampleVerifier  = "dBjftJeZ4CVP-mB92K27uhbUJU1p1r_wW1gFWFOEjXk"
	exampleChallenge = "E9Melhoa2OwvFrEMTJguCHaoeK1t8URWbuGJSstw-cM"
)

const (
	webSigns = "ABCDEFGHIJKLMNOPQRSTUVWXYZabcdefghijklmnopqrstuvwxyz0123456789-_"
	allSigns = webSigns + ".~"

	// lastSigns are those of the web that may end 43 of them: the last two of their six bits, which are left over, are 0.
	lastSigns = "AEIMQUYcgkosw048"
)

// form tells by other means whether a text is a verifier.
var form = regexp.MustCompile(`\A[0-9A-Za-z._~-]{43,128}\z`)

// byteText is a byte as a text.
func byteText(c int) string { return string([]byte{byte(c)}) }

// both are the methods.
func both() []string { return []string{"plain", "S256"} }

// strange are names of no method.
func strange() []string {
	out := []string{"", " ", "s256", "Plain", "PLAIN", "pLain", "plaiN", "plan", "lain", "plai", "plain ", " plain", "plain\n", "plain\x00", "\x00plain", "plainplain", "plain,S256", "plain S256", "plainS256",
		"S256 ", " S256", "S25", "256", "S2566", "SS256", "S-256", "S_256", "S256\n", "S256\x00", "\x00S256", "S256S256", "S256plain", "S356", "S265", "S512", "S1", "S384", "SHA256", "SHA-256", "sha256", "none", "plaintext", "\xff", "é",
		exampleVerifier, exampleChallenge, strings.Repeat("S256", 1000)}
	for _, name := range both() {
		out = append(out, spoilt(name)...)
	}
	return slices.DeleteFunc(out, func(name string) bool { return slices.Contains(both(), name) })
}

// spoilt are texts that are near to s: with a byte changed to any other one, one put in, one left out, cut at either side, twice.
func spoilt(s string) []string {
	out := []string{s + s}
	for i := range len(s) {
		out = append(out, s[:i]+s[i+1:], s[:i], s[i+1:])
		for c := range 256 {
			if byte(c) != s[i] {
				out = append(out, s[:i]+byteText(c)+s[i+1:])
			}
		}
	}
	for i := range len(s) + 1 {
		for _, c := range "\x00 A=a0~" {
			out = append(out, s[:i]+string(c)+s[i:])
		}
	}
	return out
}

// challenge is a verifier's, by other means.
func challenge(verifier, method string) string {
	if method == "plain" {
		return verifier
	}
	d := sha256.Sum256([]byte(verifier))
	return base64.RawURLEncoding.EncodeToString(d[:])
}

// may tells by other means whether a text may be a challenge.
func may(challenge, method string) bool {
	if method == "plain" {
		return form.MatchString(challenge)
	}
	b, err := base64.RawURLEncoding.DecodeString(challenge)
	return err == nil && len(b) == 32 && base64.RawURLEncoding.EncodeToString(b) == challenge
}

// chancy is a verifier of n bytes, by chance.
func chancy(chance *rand.Rand, n int) string {
	out := make([]byte, n)
	for i := range out {
		out[i] = allSigns[chance.Intn(len(allSigns))]
	}
	return string(out)
}

func checkVerifier(t *testing.T, s string, want bool) {
	t.Helper()
	if got := pkce.IsVerifier(s); got != want {
		t.Errorf("IsVerifier(%.150q), %d bytes: %t", s, len(s), got)
	}
}

func checkMay(t *testing.T, challenge, method string, want bool) {
	t.Helper()
	if got := pkce.May(challenge, method); got != want {
		t.Errorf("May(%.150q, %.40q), %d bytes: %t", challenge, method, len(challenge), got)
	}
}

func checkChallenge(t *testing.T, verifier, method, want string, wantErr api.Errno) {
	t.Helper()
	if got, e := pkce.Challenge(verifier, method); got != want || e != wantErr {
		t.Errorf("Challenge(%.150q, %.40q), %d bytes: %.150q, %d, not %.150q, %d", verifier, method, len(verifier), got, e, want, wantErr)
	}
}

func checkCheck(t *testing.T, challenge, method, verifier string, want bool) {
	t.Helper()
	if got := pkce.Check(challenge, method, verifier); got != want {
		t.Errorf("Check(%.150q, %.40q, %.150q): %t", challenge, method, verifier, got)
	}
}

// checkText asks what all calls answer of a text: as a verifier, if it is one, else as none; and as a challenge.
func checkText(t *testing.T, s string, is bool) {
	t.Helper()
	checkVerifier(t, s, is)
	checkMay(t, s, "plain", is)
	checkMay(t, s, "S256", may(s, "S256"))
	for _, method := range both() {
		want, wantErr := challenge(s, method), api.OK
		checkCheck(t, want, method, s, is)
		if !is {
			want, wantErr = "", api.ErrForm
		}
		checkChallenge(t, s, method, want, wantErr)
		checkCheck(t, "", method, s, false)
		checkCheck(t, exampleChallenge, method, s, s == map[string]string{"plain": exampleChallenge, "S256": exampleVerifier}[method])
	}
}

// TestExamples is of P7.1, P7.2 and P7.3: the chapter's example.
func TestExamples(t *testing.T) {
	checkVerifier(t, exampleVerifier, true)
	checkVerifier(t, "short", false)
	checkChallenge(t, exampleVerifier, "S256", exampleChallenge, api.OK)
	checkChallenge(t, exampleVerifier, "plain", exampleVerifier, api.OK)
	checkChallenge(t, exampleVerifier, "s256", "", api.ErrArg)
	checkChallenge(t, "short", "S256", "", api.ErrForm)
	checkChallenge(t, "short", "plain", "", api.ErrForm)
	checkMay(t, exampleChallenge, "S256", true)
	checkMay(t, exampleVerifier, "plain", true)
	checkCheck(t, exampleChallenge, "S256", exampleVerifier, true)
	checkCheck(t, exampleVerifier, "plain", exampleVerifier, true)
	checkCheck(t, exampleChallenge, "plain", exampleVerifier, false)
	checkCheck(t, exampleVerifier, "S256", exampleVerifier, false)
	checkCheck(t, exampleChallenge, "S256", exampleChallenge, false)
	checkText(t, exampleVerifier, true)
	checkText(t, exampleChallenge, true)
}

// TestSizes is of P7.1 and P7.2: texts of 0, 42, 43, 44, 127, 128, 129 bytes, and many more.
func TestSizes(t *testing.T) {
	for _, n := range []int{0, 1, 42, 129} {
		checkText(t, strings.Repeat("a", n), false)
	}
	for _, n := range []int{43, 44, 127, 128} {
		checkText(t, strings.Repeat("a", n), true)
	}
	for n := range 700 {
		for _, c := range "A0_~" {
			checkText(t, strings.Repeat(string(c), n), 43 <= n && n <= 128)
		}
		checkText(t, strings.Repeat(" ", n), false)
		checkMay(t, strings.Repeat("A", n), "S256", n == 43)
		checkMay(t, strings.Repeat("_", n), "S256", false)
	}
	for _, n := range []int{256 + 43, 256 + 128, 1<<16 + 43, 1<<16 + 128, 1 << 20} {
		checkText(t, strings.Repeat("a", n), false)
		checkMay(t, strings.Repeat("A", n), "S256", false)
	}
	// It is bytes that count, not letters.
	for _, s := range []string{strings.Repeat("é", 43), strings.Repeat("a", 42) + "é", strings.Repeat("a", 41) + "é", strings.Repeat("a", 126) + "é", strings.Repeat("a", 43) + "\u0301", strings.Repeat("Ａ", 43)} {
		checkText(t, s, false)
	}
}

// TestBytes is of P7.1: each byte at each place of a verifier, and as all of one.
func TestBytes(t *testing.T) {
	right := 0
	for c := range 256 {
		s, sign := byteText(c), strings.IndexByte(allSigns, byte(c)) >= 0
		if sign {
			right++
		}
		for _, n := range []int{43, 44, 127, 128} {
			checkText(t, strings.Repeat(s, n), sign)
			checkText(t, s+strings.Repeat("b", n-1), sign)
			checkText(t, strings.Repeat("b", n/2)+s+strings.Repeat("b", n-n/2-1), sign)
			checkText(t, strings.Repeat("b", n-1)+s, sign)
		}
		for i := range 128 {
			checkVerifier(t, strings.Repeat("A", i)+s+strings.Repeat("9", 127-i), sign)
		}
		for i := range 43 {
			checkText(t, exampleVerifier[:i]+s+exampleVerifier[i+1:], sign)
		}
		// A byte in front of or behind a verifier is one of the text.
		checkText(t, s+exampleVerifier, sign)
		checkText(t, exampleVerifier+s, sign)
		checkText(t, s+strings.Repeat("b", 128), false)
		checkText(t, strings.Repeat("b", 128)+s, false)
		for d := range 256 {
			two := s + byteText(d)
			checkVerifier(t, two+exampleVerifier, form.MatchString(two+exampleVerifier))
			checkVerifier(t, exampleVerifier[:20]+two+exampleVerifier[22:], form.MatchString(strings.Repeat(two, 22)))
		}
	}
	if right != 66 {
		t.Errorf("%d bytes are signs", right)
	}
}

// TestBorders is of P7.1: the signs that the chapter names, and the bytes beside them.
func TestBorders(t *testing.T) {
	for _, c := range "AZaz09-._~" {
		checkText(t, string(c)+exampleVerifier, true)
		checkText(t, exampleVerifier+string(c), true)
		checkText(t, exampleVerifier[:21]+string(c)+exampleVerifier[21:], true)
	}
	for _, c := range "@[`{/:,^}\x7f+=%!*'()|\\\" \t\r\n\x00&?#;$" {
		checkText(t, string(c)+exampleVerifier, false)
		checkText(t, exampleVerifier+string(c), false)
		checkText(t, exampleVerifier[:21]+string(c)+exampleVerifier[21:], false)
	}
}

// TestMethods is of P7.1, P7.2 and P7.3: texts that are no method's name, however near to one.
func TestMethods(t *testing.T) {
	for _, name := range strange() {
		checkMay(t, exampleVerifier, name, false)
		checkMay(t, exampleChallenge, name, false)
		checkMay(t, "", name, false)
		checkMay(t, name, name, false)
		checkChallenge(t, exampleVerifier, name, "", api.ErrArg)
		for _, c := range []string{exampleVerifier, exampleChallenge, "", name} {
			checkCheck(t, c, name, exampleVerifier, false)
			checkCheck(t, c, name, c, false)
		}
	}
	for _, name := range both() {
		checkMay(t, exampleChallenge, name, true)
		checkChallenge(t, exampleVerifier, name, challenge(exampleVerifier, name), api.OK)
		checkCheck(t, challenge(exampleVerifier, name), name, exampleVerifier, true)
	}
}

// TestFirstErrors is of P7.2: ErrArg is told ahead of ErrForm.
func TestFirstErrors(t *testing.T) {
	none := []string{"", "short", strings.Repeat("a", 42), strings.Repeat("a", 129), strings.Repeat("a", 42) + " ", " " + exampleVerifier, exampleVerifier + "=", strings.Repeat("a", 1<<16)}
	for _, s := range none {
		for _, name := range strange() {
			checkChallenge(t, s, name, "", api.ErrArg)
			checkMay(t, s, name, false)
			checkCheck(t, s, name, s, false)
		}
		for _, name := range both() {
			checkChallenge(t, s, name, "", api.ErrForm)
			checkMay(t, s, name, false)
			checkCheck(t, s, name, s, false)
			checkCheck(t, challenge(s, name), name, s, false)
		}
	}
}

// TestMayS256 is of P7.1: what may be a challenge by S256, and what is near to that.
func TestMayS256(t *testing.T) {
	right := strings.Repeat("A", 43)
	checkMay(t, right, "S256", true)
	checkMay(t, right[:42], "S256", false)
	checkMay(t, right+"A", "S256", false)
	checkMay(t, strings.Repeat("_", 42)+"8", "S256", true)
	checkMay(t, strings.Repeat("-", 42)+"A", "S256", true)
	for at := range len(webSigns) {
		last := webSigns[at : at+1]
		checkMay(t, right[1:]+last, "S256", at%4 == 0)
		checkMay(t, exampleChallenge[:42]+last, "S256", strings.Contains(lastSigns, last))
		checkMay(t, last+right[1:], "S256", true)
	}
	for c := range 256 {
		for i := range 42 {
			checkMay(t, exampleChallenge[:i]+byteText(c)+exampleChallenge[i+1:], "S256", strings.IndexByte(webSigns, byte(c)) >= 0)
		}
		checkMay(t, exampleChallenge[:42]+byteText(c), "S256", strings.IndexByte(lastSigns, byte(c)) >= 0)
		checkMay(t, exampleChallenge+byteText(c), "S256", false)
		checkMay(t, byteText(c)+exampleChallenge, "S256", false)
		checkMay(t, byteText(c), "S256", false)
		checkMay(t, strings.Repeat(byteText(c), 43), "S256", strings.IndexByte(lastSigns, byte(c)) >= 0)
	}
	for _, s := range []string{"", "=", exampleChallenge + "=", exampleChallenge[:42] + "=", exampleChallenge[:41] + "==", exampleChallenge + "\n", exampleChallenge[:42] + "\n", "\r\n" + exampleChallenge, exampleChallenge[:20] + "\r\n" + exampleChallenge[20:],
		exampleChallenge[:20] + "\n" + exampleChallenge[21:], " " + exampleChallenge[1:], "+" + exampleChallenge[1:], "/" + exampleChallenge[1:], "." + exampleChallenge[1:], "~" + exampleChallenge[1:], exampleChallenge[:42] + "M=", strings.Repeat("é", 21) + "A"} {
		checkMay(t, s, "S256", false)
	}
	for _, s := range spoilt(exampleChallenge) {
		checkMay(t, s, "S256", may(s, "S256"))
	}
}

// TestMayBytes is of P7.1: the web's signs of 32 bytes, whatever these are, and those of more or fewer bytes.
func TestMayBytes(t *testing.T) {
	chance := rand.New(rand.NewSource(7))
	for n := range 200 {
		for range 20 {
			b := make([]byte, n)
			chance.Read(b)
			checkMay(t, base64.RawURLEncoding.EncodeToString(b), "S256", n == 32)
			checkMay(t, base64.URLEncoding.EncodeToString(b), "S256", false)
		}
	}
	for c := range 256 {
		checkMay(t, base64.RawURLEncoding.EncodeToString(bytes.Repeat([]byte{byte(c)}, 32)), "S256", true)
	}
}

// TestMayPlain is of P7.1: what may be a challenge by plain is a verifier, and nothing else.
func TestMayPlain(t *testing.T) {
	for _, s := range []string{exampleVerifier, exampleChallenge, strings.Repeat("~", 43), strings.Repeat("-._~", 32), strings.Repeat("a", 44), strings.Repeat("a", 128)} {
		checkMay(t, s, "plain", true)
	}
	for _, s := range []string{"", "short", exampleVerifier[1:], exampleVerifier + "=", exampleVerifier + " ", "\n" + exampleVerifier, strings.Repeat("a", 129), strings.Repeat("-._~", 32) + "-", strings.Repeat("+", 43), strings.Repeat("/", 43)} {
		checkMay(t, s, "plain", false)
	}
	for _, s := range spoilt(exampleVerifier) {
		checkMay(t, s, "plain", form.MatchString(s))
	}
	// Each method has its own: these may be challenges by one of them alone.
	checkMay(t, strings.Repeat("_", 43), "plain", true)
	checkMay(t, strings.Repeat("_", 43), "S256", false)
	checkMay(t, strings.Repeat("A", 44), "plain", true)
	checkMay(t, strings.Repeat("A", 44), "S256", false)
}

// TestByChance is of P7.2: verifiers of all lengths, by chance, held against Go's own digests.
func TestByChance(t *testing.T) {
	chance := rand.New(rand.NewSource(8))
	for n := 43; n <= 128; n++ {
		for range 50 {
			v := chancy(chance, n)
			checkChallenge(t, v, "plain", v, api.OK)
			checkChallenge(t, v, "S256", challenge(v, "S256"), api.OK)
			checkText(t, v, true)
		}
	}
}

// TestCheck is of P7.3: a challenge with a sign changed, one more, one less; a verifier so; one method's challenge by the other.
func TestCheck(t *testing.T) {
	chance := rand.New(rand.NewSource(9))
	verifiers := []string{exampleVerifier, exampleChallenge, strings.Repeat("a", 43), strings.Repeat("a", 128), strings.Repeat("-._~", 12), chancy(chance, 44), chancy(chance, 90), chancy(chance, 127)}
	for _, v := range verifiers {
		for _, method := range both() {
			c := challenge(v, method)
			checkCheck(t, c, method, v, true)
			for _, s := range append(spoilt(c), "", c+"=", c+"\x00", " "+c, c+"\n", strings.ToUpper(c), strings.ToLower(c)) {
				checkCheck(t, s, method, v, s == c)
			}
			for _, s := range append(spoilt(v), "", v+"=", v+"\x00", " "+v, v+"\n", strings.ToUpper(v), strings.ToLower(v)) {
				checkCheck(t, c, method, s, s == v)
				if !form.MatchString(s) {
					checkCheck(t, s, method, s, false)
					checkCheck(t, challenge(s, method), method, s, false)
				}
			}
			for _, name := range strange() {
				checkCheck(t, c, name, v, false)
				checkCheck(t, v, name, v, false)
			}
		}
		checkCheck(t, v, "S256", v, false)
		checkCheck(t, challenge(v, "S256"), "plain", v, false)
		checkCheck(t, challenge(v, "S256"), "S256", challenge(v, "S256"), false)
		checkCheck(t, challenge(v, "S256"), "plain", challenge(v, "S256"), true)
		checkCheck(t, challenge(challenge(v, "S256"), "S256"), "S256", v, false)
		d := sha256.Sum256([]byte(v))
		checkCheck(t, string(d[:]), "S256", v, false)
		checkCheck(t, base64.URLEncoding.EncodeToString(d[:]), "S256", v, false)
	}
	checkCheck(t, "", "", "", false)
	checkCheck(t, "", "plain", "", false)
	checkCheck(t, "", "S256", "", false)
	checkCheck(t, challenge("", "S256"), "S256", "", false)
}

// TestFollows is of P7.4: a challenge that is told may be one, has 43 bytes by S256, and is checked by its verifier, by no other text.
func TestFollows(t *testing.T) {
	chance := rand.New(rand.NewSource(10))
	var verifiers []string
	for n := 43; n <= 128; n++ {
		verifiers = append(verifiers, chancy(chance, n), strings.Repeat("a", n))
	}
	texts := append(slices.Clone(verifiers), "", "short", strings.Repeat("a", 42), strings.Repeat("a", 129), exampleVerifier+" ")
	for _, v := range verifiers {
		for _, method := range both() {
			c, e := pkce.Challenge(v, method)
			if e != api.OK || !pkce.May(c, method) || !pkce.Check(c, method, v) {
				t.Errorf("Challenge(%q, %q): %q, %d", v, method, c, e)
			}
			if want := map[string]int{"plain": len(v), "S256": 43}[method]; len(c) != want {
				t.Errorf("Challenge(%q, %q): %d bytes", v, method, len(c))
			}
			for _, s := range texts {
				checkCheck(t, c, method, s, s == v)
			}
		}
	}
	for _, s := range texts {
		for _, method := range append(both(), "", "s256") {
			c, e := pkce.Challenge(s, method)
			if (e == api.OK) != pkce.Check(c, method, s) || (e == api.OK) != pkce.May(c, method) || (e != api.OK) != (c == "") {
				t.Errorf("Challenge(%q, %q): %q, %d", s, method, c, e)
			}
		}
	}
}

// shared tells whether two texts share memory.
func shared(a, b string) bool {
	if a == "" || b == "" {
		return false
	}
	one, two := uintptr(unsafe.Pointer(unsafe.StringData(a))), uintptr(unsafe.Pointer(unsafe.StringData(b)))
	return one < two+uintptr(len(b)) && two < one+uintptr(len(a))
}

// TestNewMemory is of P7.2, with the rule of memory: what is answered shares none with what was handed in, nor with other answers.
func TestNewMemory(t *testing.T) {
	for n := 43; n <= 128; n++ {
		v := strings.Repeat("a", n)
		for _, method := range both() {
			one, _ := pkce.Challenge(v, method)
			two, _ := pkce.Challenge(v, method)
			again, _ := pkce.Challenge(one, method)
			for _, pair := range [][2]string{{one, v}, {two, v}, {one, two}, {again, one}, {again, v}} {
				if shared(pair[0], pair[1]) {
					t.Errorf("Challenge of %d bytes by %s shares memory", n, method)
				}
			}
		}
	}
}

// TestNothingChanged is of the rule of memory: what is handed in stays as it is, is not kept, and doesn't tell in what was answered.
func TestNothingChanged(t *testing.T) {
	memory := []byte(exampleVerifier + exampleChallenge + "plainS256rest")
	was := bytes.Clone(memory)
	at := func(from, to int) string { return unsafe.String(&memory[from], to-from) }
	v, c, plain, digest := at(0, 43), at(43, 86), at(86, 91), at(91, 95)
	for _, method := range []string{plain, digest, at(86, 90), at(91, 96)} {
		for _, s := range []string{v, c, at(0, 86), at(0, 42), at(80, 95)} {
			for _, x := range []string{v, c, at(0, 86)} {
				pkce.Check(x, method, s)
			}
			pkce.IsVerifier(s)
			pkce.May(s, method)
			pkce.Challenge(s, method)
		}
	}
	if !bytes.Equal(memory, was) {
		t.Fatalf("%q was changed to %q", was, memory)
	}
	one, _ := pkce.Challenge(v, plain)
	two, _ := pkce.Challenge(v, digest)
	for i := range memory {
		memory[i] = 'x'
	}
	if one != exampleVerifier || two != exampleChallenge {
		t.Errorf("answers change: %q, %q", one, two)
	}
	checkCheck(t, exampleChallenge, "S256", exampleVerifier, true)
	checkCheck(t, v, "plain", exampleVerifier, false)
	checkCheck(t, v, "plain", strings.Repeat("x", 43), true)
	checkChallenge(t, exampleVerifier, "S256", exampleChallenge, api.OK)
	checkChallenge(t, exampleVerifier, "xxxx", "", api.ErrArg)
}

// TestEnds is of P1: long texts are answered.
func TestEnds(t *testing.T) {
	for _, c := range []byte("aA =\x00\xff") {
		long := strings.Repeat(byteText(int(c)), 1<<26)
		checkVerifier(t, long, false)
		for _, method := range append(both(), "", long) {
			wantErr := api.ErrForm
			if !slices.Contains(both(), method) {
				wantErr = api.ErrArg
			}
			checkMay(t, long, method, false)
			checkChallenge(t, long, method, "", wantErr)
			checkCheck(t, long, method, long, false)
			checkCheck(t, long, method, exampleVerifier, false)
			checkCheck(t, exampleChallenge, method, long, false)
		}
	}
}
