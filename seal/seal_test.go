package seal_test

import (
	"bytes"
	"crypto/hmac"
	"crypto/sha256"
	"encoding/base64"
	"fmt"
	"math"
	"math/big"
	"math/rand"
	"regexp"
	"slices"
	"strconv"
	"strings"
	"testing"
	"unsafe"

	"signet/api"
	"signet/seal"
)

const (
	webSigns = "ABCDEFGHIJKLMNOPQRSTUVWXYZabcdefghijklmnopqrstuvwxyz0123456789-_"

	maxFamily = 32
	maxSerial = 1099511627776

	tagSigns = 16
	tagBytes = 12

	// anyTag is sixteen of the web's signs.
	anyTag = "AAAAAAAAAAAAAAAA"
)

// The face, as the chapter has it.
var (
	_ func(secret []byte, t api.Token) (string, api.Errno) = seal.Make
	_ func(secret []byte, s string) (api.Token, api.Errno) = seal.Open
	_ func(s string) (api.Token, api.Errno)                = seal.Peek
	_ func(t api.Token) bool                               = seal.Right
)

// The chapter's words, as patterns.
var (
	isFamily = regexp.MustCompile(`\A[0-9A-Za-z_-]{1,32}\z`)
	isText   = regexp.MustCompile(`\A([acr])\.([0-9A-Za-z_-]{1,32})\.(0|[1-9][0-9]*)\.([0-9A-Za-z_-]{16})\z`)
)

// right is the chapter's word for a token.
func right(x api.Token) bool {
	return (x.Kind == 1 || x.Kind == 2 || x.Kind == 3) && isFamily.MatchString(x.Family) && x.Serial >= 0 && x.Serial <= maxSerial
}

// headOf is the chapter's word for the head of a right token.
func headOf(x api.Token) string {
	letter := map[int]string{1: "c", 2: "a", 3: "r"}[x.Kind]
	return fmt.Sprintf("%s.%s.%d.", letter, x.Family, x.Serial)
}

// tagOf is the chapter's word for the tag of a head.
func tagOf(secret []byte, head string) string {
	keyed := hmac.New(sha256.New, secret)
	keyed.Write([]byte(head))
	return base64.RawURLEncoding.EncodeToString(keyed.Sum(nil)[:tagBytes])
}

// textOf is the chapter's word for the text of a right token.
func textOf(secret []byte, x api.Token) string { return headOf(x) + tagOf(secret, headOf(x)) }

// peeked is the chapter's word for the token of a text.
func peeked(s string) (api.Token, api.Errno) {
	parts := isText.FindStringSubmatch(s)
	if parts == nil {
		return api.Token{}, api.ErrForm
	}
	serial, ok := new(big.Int).SetString(parts[3], 10)
	if !ok || serial.Cmp(big.NewInt(maxSerial)) > 0 {
		return api.Token{}, api.ErrForm
	}
	return api.Token{Kind: map[string]int{"c": 1, "a": 2, "r": 3}[parts[1]], Family: parts[2], Serial: int(serial.Int64())}, api.OK
}

// opened is the chapter's word for the token of a text that was made by a secret.
func opened(secret []byte, s string) (api.Token, api.Errno) {
	x, e := peeked(s)
	if e == api.OK && textOf(secret, x) != s {
		return api.Token{}, api.ErrSum
	}
	return x, e
}

// secrets are some of all sizes that a digest's key tells apart.
func secrets() [][]byte {
	out := [][]byte{nil, {}}
	for _, n := range []int{1, 2, 12, 16, 31, 32, 33, 55, 56, 63, 64, 65, 66, 127, 128, 129, 1000, 100000} {
		one := make([]byte, n)
		for k := range one {
			one[k] = byte(7*k + n)
		}
		out = append(out, one, bytes.Repeat([]byte{'s'}, n))
	}
	return append(out, []byte("secret"), []byte("other"), []byte{0}, []byte{255}, []byte{128, 0, 200})
}

// byteText is a byte as a text.
func byteText(c int) string { return string([]byte{byte(c)}) }

// shown is a text, cut where it is long.
func shown(s string) string {
	if len(s) > 120 {
		return fmt.Sprintf("%q and more, %d bytes", s[:120], len(s))
	}
	return fmt.Sprintf("%q", s)
}

func checkPeek(t *testing.T, s string, want api.Token, wantErr api.Errno) {
	t.Helper()
	if got, e := seal.Peek(s); got != want || e != wantErr {
		t.Errorf("Peek(%s): %v, %d; want %v, %d", shown(s), got, e, want, wantErr)
	}
}

func checkOpen(t *testing.T, secret []byte, s string, want api.Token, wantErr api.Errno) {
	t.Helper()
	if got, e := seal.Open(secret, s); got != want || e != wantErr {
		t.Errorf("Open(%.20q, %s): %v, %d; want %v, %d", secret, shown(s), got, e, want, wantErr)
	}
}

// checkText asks what a text is, by the secret, by others, by none, and holds it against the definition.
func checkText(t *testing.T, secret []byte, s string) {
	t.Helper()
	x, e := peeked(s)
	checkPeek(t, s, x, e)
	for _, by := range [][]byte{secret, nil, {}, []byte("another one"), append(bytes.Clone(secret), 'x')} {
		x, e := opened(by, s)
		checkOpen(t, by, s, x, e)
	}
}

// checkNone asks what a text is that tells no token.
func checkNone(t *testing.T, s string) {
	t.Helper()
	checkPeek(t, s, api.Token{}, api.ErrForm)
	for _, by := range [][]byte{[]byte("secret"), nil, {}, []byte("another one")} {
		checkOpen(t, by, s, api.Token{}, api.ErrForm)
	}
}

// checkMake asks for a token's text by a secret, and what that text is.
func checkMake(t *testing.T, secret []byte, x api.Token) {
	t.Helper()
	is := right(x)
	if got := seal.Right(x); got != is {
		t.Errorf("Right(%d, %s, %d): %v", x.Kind, shown(x.Family), x.Serial, got)
	}
	want, wantErr := "", api.ErrArg
	if is {
		want, wantErr = textOf(secret, x), api.OK
	}
	s, e := seal.Make(secret, x)
	if s != want || e != wantErr {
		t.Errorf("Make(%.20q, {%d, %s, %d}): %s, %d; want %s, %d", secret, x.Kind, shown(x.Family), x.Serial, shown(s), e, shown(want), wantErr)
	}
	if is {
		checkPeek(t, s, x, api.OK)
		checkOpen(t, secret, s, x, api.OK)
		checkText(t, secret, s)
	}
}

// checkToken asks all of a token that is right, or isn't, as is said.
func checkToken(t *testing.T, want bool, x api.Token) {
	t.Helper()
	if right(x) != want {
		t.Fatalf("the test's own word for {%d, %s, %d}: %v", x.Kind, shown(x.Family), x.Serial, !want)
	}
	for _, secret := range [][]byte{[]byte("secret"), nil} {
		checkMake(t, secret, x)
	}
	if !want && x.Kind >= 1 && x.Kind <= 3 {
		head := headOf(x)
		checkNone(t, head+anyTag)
		checkNone(t, head+tagOf([]byte("secret"), head))
		checkNone(t, head+tagOf(nil, head))
	}
}

// few are some tokens that are right.
func few() []api.Token {
	return []api.Token{
		{Kind: api.KCode, Family: "f1", Serial: 7},
		{Kind: api.KAccess, Family: "f1", Serial: 7},
		{Kind: api.KRefresh, Family: "f1", Serial: 7},
		{Kind: api.KAccess, Family: "f", Serial: 17},
		{Kind: api.KAccess, Family: "f1", Serial: 0},
		{Kind: api.KAccess, Family: "F1", Serial: 7},
		{Kind: api.KRefresh, Family: "-", Serial: 1},
		{Kind: api.KCode, Family: "_a", Serial: 10},
		{Kind: api.KCode, Family: "0", Serial: maxSerial},
		{Kind: api.KRefresh, Family: strings.Repeat("z", maxFamily), Serial: maxSerial},
		{Kind: api.KAccess, Family: strings.Repeat("9", maxFamily), Serial: maxSerial - 1},
	}
}

// TestExample is the chapter's example, and is of P16.1 and P16.2.
func TestExample(t *testing.T) {
	for _, secret := range secrets() {
		s, e := seal.Make(secret, api.Token{Kind: api.KAccess, Family: "f1", Serial: 7})
		if e != api.OK || len(s) != 23 || !strings.HasPrefix(s, "a.f1.7.") {
			t.Errorf("%q, %d", s, e)
		}
	}
	for _, s := range []string{"a.f1.07.AAAAAAAAAAAAAAAA", "x.f1.7.AAAAAAAAAAAAAAAA", "a.f1.7.AAAA"} {
		checkPeek(t, s, api.Token{}, api.ErrForm)
	}
	checkPeek(t, "c.f1.0.AAAAAAAAAAAAAAAA", api.Token{Kind: api.KCode, Family: "f1", Serial: 0}, api.OK)
}

// TestKnown is of P16.1 and P16.2: texts that were made by other means.
func TestKnown(t *testing.T) {
	rising := make([]byte, 65)
	for k := range rising {
		rising[k] = byte(k)
	}
	for _, c := range []struct {
		secret []byte
		token  api.Token
		text   string
	}{
		{[]byte("secret"), api.Token{Kind: 2, Family: "f1", Serial: 7}, "a.f1.7.sbV71v_qaH7I9MKI"},
		{nil, api.Token{Kind: 1, Family: "f1", Serial: 0}, "c.f1.0.LZyiNb3zH0T14me9"},
		{[]byte("secret"), api.Token{Kind: 1, Family: "f1", Serial: 0}, "c.f1.0.HkC_pWYIhgvHRtMB"},
		{[]byte("k"), api.Token{Kind: 3, Family: "-_", Serial: 1 << 40}, "r.-_.1099511627776.qSiEfCbTTFxUazv3"},
		{rising, api.Token{Kind: 3, Family: "AAAAAAAAAAAAAAAAAAAAAAAAAAAAAAAA", Serial: 1 << 40}, "r.AAAAAAAAAAAAAAAAAAAAAAAAAAAAAAAA.1099511627776.rWIOY5SZjduFSX9o"},
		{rising[:64], api.Token{Kind: 3, Family: "Z9", Serial: 10}, "r.Z9.10.IoMWmPvhZBsKz0vi"},
	} {
		if s, e := seal.Make(c.secret, c.token); s != c.text || e != api.OK {
			t.Errorf("Make of %v: %q, %d; want %q", c.token, s, e, c.text)
		}
		checkPeek(t, c.text, c.token, api.OK)
		checkOpen(t, c.secret, c.text, c.token, api.OK)
		checkOpen(t, []byte("another one"), c.text, api.Token{}, api.ErrSum)
		checkMake(t, c.secret, c.token)
	}
}

// TestKinds is of P16.1: a token's kind is one of the three.
func TestKinds(t *testing.T) {
	for kind := -300; kind <= 300; kind++ {
		for _, serial := range []int{0, 1, 7, maxSerial} {
			checkToken(t, kind >= 1 && kind <= 3, api.Token{Kind: kind, Family: "f1", Serial: serial})
		}
	}
	for _, off := range []int{1 << 8, 1 << 16, 1 << 31, 1 << 32, 1 << 62, math.MaxInt, math.MinInt, math.MinInt + 1, -1 << 32} {
		for by := -4; by <= 4; by++ {
			checkToken(t, false, api.Token{Kind: off + by, Family: "f1", Serial: 7})
		}
	}
	for kind, letter := range map[int]string{1: "c", 2: "a", 3: "r"} {
		if s, e := seal.Make(nil, api.Token{Kind: kind, Family: "f1", Serial: 7}); e != api.OK || !strings.HasPrefix(s, letter+".f1.7.") {
			t.Errorf("%d: %q, %d", kind, s, e)
		}
	}
}

// TestFamilyLengths is of P16.1 and P16.2: a family has 1 to 32 bytes.
func TestFamilyLengths(t *testing.T) {
	for _, sign := range []string{"a", "Z", "0", "-", "_"} {
		for n := range 100 {
			for kind := 1; kind <= 3; kind++ {
				checkToken(t, n >= 1 && n <= 32, api.Token{Kind: kind, Family: strings.Repeat(sign, n), Serial: 7})
			}
		}
		for _, n := range []int{255, 256, 257, 258, 288, 1000, 65537, 1 << 20} {
			checkToken(t, false, api.Token{Kind: 2, Family: strings.Repeat(sign, n), Serial: 7})
		}
	}
	checkToken(t, true, api.Token{Kind: 2, Family: webSigns[:32], Serial: 7})
	checkToken(t, true, api.Token{Kind: 2, Family: webSigns[32:], Serial: 7})
	checkToken(t, false, api.Token{Kind: 2, Family: webSigns[:33], Serial: 7})
	checkToken(t, false, api.Token{Kind: 2, Family: webSigns, Serial: 7})
}

// TestFamilySigns is of P16.1 and P16.2: a family has letters, digits, - and _, and no others, at no place.
func TestFamilySigns(t *testing.T) {
	good := 0
	for c := range 256 {
		is := c >= 'a' && c <= 'z' || c >= 'A' && c <= 'Z' || c >= '0' && c <= '9' || c == '-' || c == '_'
		if is {
			good++
		}
		one := byteText(c)
		for _, family := range []string{one, one + "f", "f" + one, "f" + one + "1", one + one, one + strings.Repeat("f", 31), strings.Repeat("f", 31) + one, strings.Repeat("f", 16) + one + strings.Repeat("f", 15), strings.Repeat(one, 32)} {
			checkToken(t, is, api.Token{Kind: 2, Family: family, Serial: 7})
		}
		for _, family := range []string{one + strings.Repeat("f", 32), strings.Repeat("f", 32) + one} {
			checkToken(t, false, api.Token{Kind: 2, Family: family, Serial: 7})
		}
	}
	if good != 64 {
		t.Errorf("%d signs", good)
	}
	for at := range 32 {
		for _, sign := range []string{".", " ", "=", "+", "/", "\x00", "\xff", "\u00e9", "\u0430", "\u212a", "\uff10", "\u0660"} {
			family := webSigns[:at] + sign + webSigns[at:31]
			checkToken(t, false, api.Token{Kind: 3, Family: family, Serial: 7})
			if len(sign) > 1 {
				checkToken(t, false, api.Token{Kind: 3, Family: sign, Serial: 7})
			}
		}
	}
}

// serials are some at every edge that a serial has.
func serials() []int {
	out := []int{math.MinInt, math.MinInt + 1, -1 << 41, -maxSerial - 1, -maxSerial, -maxSerial + 1, -1 << 32, -1 << 31, -10, -2, -1, 0, 1, 2,
		maxSerial - 1, maxSerial, maxSerial + 1, maxSerial + 2, 1 << 41, 1<<41 + 1, math.MaxInt - 1, math.MaxInt}
	for power := 10; ; power *= 10 {
		out = append(out, power-1, power, power+1, -power, 2*(power-1)/3)
		if power > math.MaxInt/10 {
			break
		}
	}
	for bit := range 63 {
		out = append(out, 1<<bit-1, 1<<bit, 1<<bit+1)
	}
	for bit := 41; bit < 63; bit++ {
		out = append(out, 1<<bit+7)
	}
	return out
}

// TestSerials is of P16.1 and P16.2: a serial is from 0 to 2^40, and is told by its digits.
func TestSerials(t *testing.T) {
	lengths := map[int]bool{}
	for _, serial := range serials() {
		for kind := 1; kind <= 3; kind++ {
			checkToken(t, serial >= 0 && serial <= maxSerial, api.Token{Kind: kind, Family: "f1", Serial: serial})
		}
		if serial < 0 || serial > maxSerial {
			continue
		}
		digits := fmt.Sprint(serial)
		lengths[len(digits)] = true
		s, e := seal.Make([]byte("secret"), api.Token{Kind: 1, Family: "f1", Serial: serial})
		if e != api.OK || !strings.HasPrefix(s, "c.f1."+digits+".") || len(s) != len("c.f1..")+len(digits)+tagSigns {
			t.Errorf("Make of %d: %q, %d", serial, s, e)
		}
	}
	for n := 1; n <= 13; n++ {
		if !lengths[n] {
			t.Errorf("no serial of %d digits", n)
		}
	}
}

// TestWrongAll is of P16.1: a token of which more than one part is wrong isn't right either.
func TestWrongAll(t *testing.T) {
	for _, kind := range []int{-1, 0, 1, 2, 3, 4} {
		for _, family := range []string{"", "f", ".", strings.Repeat("f", 32), strings.Repeat("f", 33)} {
			for _, serial := range []int{-1, 0, maxSerial, maxSerial + 1} {
				is := kind >= 1 && kind <= 3 && (len(family) == 1 && family != "." || len(family) == 32) && serial >= 0 && serial <= maxSerial
				checkToken(t, is, api.Token{Kind: kind, Family: family, Serial: serial})
			}
		}
	}
	checkToken(t, false, api.Token{})
}

// TestSecrets is of P16.1 and P16.2: a text is sealed by the whole secret, whatever it is, and opened by it.
func TestSecrets(t *testing.T) {
	for _, secret := range secrets() {
		for _, x := range few() {
			checkMake(t, secret, x)
		}
	}
	for n := range 200 {
		secret := make([]byte, n)
		for k := range secret {
			secret[k] = byte(n*k + 1)
		}
		checkMake(t, secret, few()[n%len(few())])
	}
	for c := range 256 {
		checkMake(t, []byte{byte(c)}, few()[0])
		checkMake(t, append(bytes.Repeat([]byte("s"), 63), byte(c)), few()[1])
		checkMake(t, append(bytes.Repeat([]byte("s"), 64), byte(c)), few()[2])
	}
}

// TestOtherSecrets is of P16.2: what is made by one secret is opened by none that tells another tag. By the chapter's word for a key, bytes 0 behind a short one change nothing, nor does taking its digest in the place of a long one.
func TestOtherSecrets(t *testing.T) {
	all := secrets()
	for _, x := range few()[:3] {
		for _, by := range all {
			s, _ := seal.Make(by, x)
			for _, other := range all {
				want, wantErr := opened(other, s)
				checkOpen(t, other, s, want, wantErr)
			}
		}
	}
	s, _ := seal.Make([]byte("secret"), few()[0])
	for k := range len("secret") {
		for bit := range 8 {
			near := []byte("secret")
			near[k] ^= 1 << bit
			checkOpen(t, near, s, api.Token{}, api.ErrSum)
		}
		checkOpen(t, []byte("secret")[:k], s, api.Token{}, api.ErrSum)
		checkOpen(t, []byte("secret")[k+1:], s, api.Token{}, api.ErrSum)
	}
	checkOpen(t, []byte("secret\x00"), s, few()[0], api.OK)
	checkOpen(t, []byte("secret"+strings.Repeat("\x00", 58)), s, few()[0], api.OK)
	checkOpen(t, []byte("secret"+strings.Repeat("\x00", 59)), s, api.Token{}, api.ErrSum)
	checkOpen(t, []byte("\x00secret"), s, api.Token{}, api.ErrSum)
	long := bytes.Repeat([]byte("long"), 17)
	digest := sha256.Sum256(long)
	s, _ = seal.Make(long, few()[1])
	checkOpen(t, digest[:], s, few()[1], api.OK)
	checkOpen(t, long[:67], s, api.Token{}, api.ErrSum)
	checkOpen(t, long[:64], s, api.Token{}, api.ErrSum)
}

// wrongHeads are texts that are no head of a right token.
func wrongHeads() []string {
	out := []string{
		"", ".", "..", "...", "....", "a", "a.", "a..", "a...", "a.f", "a.f1", "a.f1.", "a.f1..", "a.f1.7", "a.f1.7..", "a.f1..7.", "a..f1.7.", ".a.f1.7.", "a.f1.7.7.", "a.f1.f1.7.", "a.a.f1.7.", "a.f1.7.1.",
		"a.f.1.1.", "a.f1", "f1.7.", ".f1.7.", "7.", "a.7.", "a7.", "af1.7.", "a.f17.", "a.f1.7", "a.f1.7,", "a,f1.7.", "a.f1,7.", "a:f1:7:", "a.f1.7:", "a-f1-7-", "a f1 7 ", "a.f1.7. ", "a.f1.7 .", "a.f1 .7.", "a. f1.7.", "a .f1.7.", " a.f1.7.", "a.f1. 7.",
		"a.f1.\n7.", "a.f1.7\n.", "a.f1.7.\n", "\na.f1.7.", "a.f1.7.\x00", "\x00a.f1.7.", "a.f1\x00.7.",
		"A.f1.7.", "C.f1.7.", "R.f1.7.", "b.f1.7.", "x.f1.7.", "q.f1.7.", "s.f1.7.", "d.f1.7.", "aa.f1.7.", "ca.f1.7.", "car.f1.7.", "cc.f1.7.", "access.f1.7.", "1.f1.7.", "2.f1.7.", "0.f1.7.", "3.f1.7.", "\x01.f1.7.", "\x02.f1.7.", "\xff.f1.7.", "\xe1.f1.7.", "\u0430.f1.7.", "\u00e1.f1.7.", "-.f1.7.", "_.f1.7.",
		"a..7.", "a.f=.7.", "a.f+.7.", "a.f/.7.", "a.f~.7.", "a.f%31.7.", "a.\xff.7.", "a.\u00e9.7.", "a." + strings.Repeat("f", 33) + ".7.", "a." + strings.Repeat("f", 1000) + ".7.",
		"a.f1.00.", "a.f1.000.", "a.f1.01.", "a.f1.07.", "a.f1.007.", "a.f1.010.", "a.f1.0000000000000.", "a.f1.00000000000000.", "a.f1.0000000000001.", "a.f1.01099511627776.", "a.f1.0109951162777.", "a.f1." + strings.Repeat("0", 1000) + ".", "a.f1." + strings.Repeat("0", 1000) + "7.",
		"a.f1.-0.", "a.f1.-1.", "a.f1.-7.", "a.f1.+0.", "a.f1.+7.", "a.f1.-.", "a.f1.+.", "a.f1.--7.", "a.f1.7-.", "a.f1.7+.", "a.f1._7.", "a.f1.7_.", "a.f1.1_0.", "a.f1.0x7.", "a.f1.0X7.", "a.f1.x7.", "a.f1.0b1.", "a.f1.0o7.", "a.f1.0_7.", "a.f1.7e0.", "a.f1.1e1.", "a.f1.1E1.", "a.f1.7f.", "a.f1.f7.", "a.f1.f.", "a.f1.a.", "a.f1.x.", "a.f1.7,0.", "a.f1.7'0.", "a.f1.7.0.", "a.f1.inf.", "a.f1.NaN.", "a.f1.nil.",
		"a.f1.\u0667.", "a.f1.\uff17.", "a.f1.7\u0667.", "a.f1.\u00b2.", "a.f1.\xff.", "a.f1.7\xff.", "a.f1.\x07.", "a.f1.\x00.", "a.f1./.", "a.f1.:.", "a.f1.7/.", "a.f1.7:.",
		"a.f1.1099511627777.", "a.f1.1099511627778.", "a.f1.1099511627780.", "a.f1.1099511627786.", "a.f1.1099511628776.", "a.f1.1199511627776.", "a.f1.2099511627776.", "a.f1.9999999999999.", "a.f1.10000000000000.", "a.f1.10995116277760.", "a.f1.99999999999999.", "a.f1.2199023255552.",
		"a.f1.9223372036854775807.", "a.f1.9223372036854775808.", "a.f1.-9223372036854775808.", "a.f1.-9223372036854775809.", "a.f1.18446744073709551615.", "a.f1.18446744073709551616.", "a.f1.18446744073709551617.", "a.f1.18446744073709551623.", "a.f1.184467440737095516160.", "a.f1.340282366920938463463374607431768211456.", "a.f1.340282366920938463463374607431768211463.",
		"a.f1." + strings.Repeat("9", 1000) + ".", "a.f1." + strings.Repeat("1", 100000) + ".",
	}
	for c := range 256 {
		one := byteText(c)
		if !strings.Contains("acr", one) {
			out = append(out, one+".f1.7.")
		}
		if !strings.Contains(webSigns, one) {
			out = append(out, "a."+one+".7.", "a."+one+"1.7.", "a.f"+one+".7.", "a.f"+one+"1.7.")
		}
		if c < '0' || c > '9' {
			out = append(out, "a.f1."+one+".", "a.f1."+one+"7.", "a.f1.7"+one+".", "a.f1.7"+one+"7.")
		}
		if c != '.' {
			out = append(out, "a"+one+"f1.7.", "a.f1"+one+"7.", "a.f1.7"+one)
		}
		out = append(out, one+"a.f1.7.")
		out = append(out, "a"+one+".f1.7.")
	}
	return out
}

// TestWrongHeads is of P16.2: what begins with no right token's head tells no token, also if its tag is right; and by whatever secret it is opened, that error comes first.
func TestWrongHeads(t *testing.T) {
	for _, head := range wrongHeads() {
		for _, tag := range []string{anyTag, "abcDEF0123456-_z", tagOf([]byte("secret"), head), tagOf(nil, head)} {
			if _, e := peeked(head + tag); e != api.ErrForm {
				t.Fatalf("the test's own word for %s: %d", shown(head), e)
			}
			checkNone(t, head+tag)
		}
	}
}

// TestPoints is of P16.2: a text has three points and no others, each at its place.
func TestPoints(t *testing.T) {
	for _, x := range few() {
		s := textOf([]byte("secret"), x)
		points := 0
		for at := range len(s) {
			if s[at] == '.' {
				points++
				checkNone(t, s[:at]+s[at+1:])
				for c := range 256 {
					if c != '.' {
						checkNone(t, s[:at]+byteText(c)+s[at+1:])
					}
				}
			} else {
				checkNone(t, s[:at]+"."+s[at+1:])
			}
			checkNone(t, s[:at]+"."+s[at:])
		}
		if points != 3 {
			t.Errorf("%q has %d points", s, points)
		}
		checkNone(t, s+".")
	}
	for n := range 40 {
		checkNone(t, strings.Repeat(".", n))
		checkNone(t, strings.Repeat(".", n)+anyTag)
		if n != 1 {
			for _, s := range []string{"a" + strings.Repeat(".", n) + "f1.7.", "a.f1" + strings.Repeat(".", n) + "7.", "a.f1.7" + strings.Repeat(".", n)} {
				checkNone(t, s+anyTag)
			}
		}
	}
}

// TestTagLengths is of P16.2: just sixteen signs stand behind a head.
func TestTagLengths(t *testing.T) {
	for _, x := range few() {
		s := textOf([]byte("secret"), x)
		head, tag := headOf(x), s[len(headOf(x)):]
		long := strings.Repeat(tag, 20)
		for n := range 300 {
			if n != tagSigns {
				checkNone(t, head+long[:n])
				checkNone(t, head+long[len(long)-n:])
				checkNone(t, head+strings.Repeat("A", n))
				checkNone(t, long[:n])
			} else {
				checkText(t, []byte("secret"), head+long[:n])
			}
		}
		for _, n := range []int{1 << 8, 1<<8 + tagSigns, 1<<16 + tagSigns, 1 << 20} {
			checkNone(t, head+strings.Repeat("A", n))
		}
		// What a whole digest's signs would be, or a longer or shorter piece of it.
		keyed := hmac.New(sha256.New, []byte("secret"))
		keyed.Write([]byte(head))
		digest := keyed.Sum(nil)
		for n := range len(digest) + 1 {
			for _, way := range []*base64.Encoding{base64.RawURLEncoding, base64.URLEncoding, base64.StdEncoding} {
				full := head + way.EncodeToString(digest[:n])
				if full != s {
					checkNone(t, full)
				}
			}
		}
		checkNone(t, head+fmt.Sprintf("%x", digest))
		checkNone(t, head+fmt.Sprintf("%x", digest[:12]))
		checkOpen(t, []byte("secret"), head+fmt.Sprintf("%x", digest[:8]), api.Token{}, api.ErrSum)
		checkOpen(t, []byte("secret"), head+base64.RawURLEncoding.EncodeToString(digest[20:]), api.Token{}, api.ErrSum)
	}
}

// TestTagSigns is of P16.2: all signs behind a head are the web's; if one isn't, there is no token; if one is another one of the web's, it isn't the tag. Each sign of the tag is looked at.
func TestTagSigns(t *testing.T) {
	secret := []byte("secret")
	for _, x := range few()[:4] {
		s := textOf(secret, x)
		head := headOf(x)
		for at := len(head); at < len(s); at++ {
			for c := range 256 {
				changed := s[:at] + byteText(c) + s[at+1:]
				switch {
				case changed == s:
					checkOpen(t, secret, changed, x, api.OK)
				case strings.Contains(webSigns, byteText(c)):
					checkPeek(t, changed, x, api.OK)
					checkOpen(t, secret, changed, api.Token{}, api.ErrSum)
					checkOpen(t, nil, changed, api.Token{}, api.ErrSum)
				default:
					checkNone(t, changed)
				}
			}
			checkNone(t, s[:at]+s[at+1:])
			checkNone(t, s[:at]+"A"+s[at:])
			checkNone(t, s[:at])
		}
	}
}

// TestTagBits is of P16.2: no bit of the tag may be another one.
func TestTagBits(t *testing.T) {
	secret := []byte("secret")
	for _, x := range few() {
		head := headOf(x)
		tag := tagOf(secret, head)
		b, err := base64.RawURLEncoding.DecodeString(tag)
		if err != nil || len(b) != tagBytes {
			t.Fatalf("%q: %d, %v", tag, len(b), err)
		}
		bits := 0
		for at := range b {
			for bit := range 8 {
				b[at] ^= 1 << bit
				changed := head + base64.RawURLEncoding.EncodeToString(b)
				checkPeek(t, changed, x, api.OK)
				checkOpen(t, secret, changed, api.Token{}, api.ErrSum)
				b[at] ^= 1 << bit
				bits++
			}
		}
		if bits != 96 {
			t.Errorf("%d bits", bits)
		}
		for _, other := range []string{anyTag, "________________", "----------------", strings.ToUpper(tag), strings.ToLower(tag), tag[1:] + tag[:1], tag[8:] + tag[:8]} {
			if other != tag {
				checkOpen(t, secret, head+other, api.Token{}, api.ErrSum)
			}
		}
		// Signs as they are, and as octet's basic signs would be.
		if basic := base64.StdEncoding.EncodeToString(b); basic != tag {
			checkNone(t, head+basic)
		}
	}
}

// TestHeadBits is of P16.2: behind a head that is changed in one bit, one sign, the tag isn't its own.
func TestHeadBits(t *testing.T) {
	secret := []byte("secret")
	for _, x := range few() {
		s := textOf(secret, x)
		for at := range len(headOf(x)) {
			for c := range 256 {
				changed := s[:at] + byteText(c) + s[at+1:]
				want, wantErr := peeked(changed)
				checkPeek(t, changed, want, wantErr)
				if changed != s && wantErr == api.OK {
					want, wantErr = api.Token{}, api.ErrSum
				}
				checkOpen(t, secret, changed, want, wantErr)
			}
			for _, changed := range []string{s[:at] + s[at+1:], s[:at] + "1" + s[at:], s[:at] + "0" + s[at:]} {
				want, wantErr := peeked(changed)
				checkPeek(t, changed, want, wantErr)
				if changed != s && wantErr == api.OK {
					want, wantErr = api.Token{}, api.ErrSum
				}
				checkOpen(t, secret, changed, want, wantErr)
			}
		}
	}
}

// TestOtherHeads is of P16.2: one token's tag isn't that of another one, of the same secret; and a token's text is unlike each other one's.
func TestOtherHeads(t *testing.T) {
	secret := []byte("secret")
	var tokens []api.Token
	for kind := 1; kind <= 3; kind++ {
		for _, family := range []string{"f", "f1", "1", "11", "F1", "-", "_", "f1a", strings.Repeat("f", 32)} {
			for _, serial := range []int{0, 1, 7, 10, 11, 17, 111, maxSerial} {
				tokens = append(tokens, api.Token{Kind: kind, Family: family, Serial: serial})
			}
		}
	}
	tags, texts := map[string]api.Token{}, map[string]api.Token{}
	for _, x := range tokens {
		s, e := seal.Make(secret, x)
		if e != api.OK {
			t.Fatalf("%v: %d", x, e)
		}
		texts[s] = x
		tags[s[len(s)-tagSigns:]] = x
	}
	if len(tags) != len(tokens) || len(texts) != len(tokens) {
		t.Errorf("%d tokens, %d tags, %d texts", len(tokens), len(tags), len(texts))
	}
	for _, x := range tokens {
		for tag, of := range tags {
			want, wantErr := of, api.OK
			if of != x {
				want, wantErr = api.Token{}, api.ErrSum
			}
			checkOpen(t, secret, headOf(x)+tag, want, wantErr)
		}
	}
}

// TestOneText is of P16.3: of one head no other text is opened, however near it is: of two signs changed, two signs that have changed their places, pieces turned.
func TestOneText(t *testing.T) {
	secret := []byte("secret")
	x := few()[1]
	s, head := textOf(secret, x), headOf(x)
	checkOpen(t, secret, s, x, api.OK)
	other := func(b []byte) {
		t.Helper()
		changed := string(b)
		if changed != s {
			checkOpen(t, secret, changed, api.Token{}, api.ErrSum)
		}
	}
	for one := len(head); one < len(s); one++ {
		for two := one + 1; two < len(s); two++ {
			b := []byte(s)
			b[one], b[two] = b[two], b[one]
			other(b)
			for _, c := range "A_z0" {
				for _, d := range webSigns {
					b[one], b[two] = byte(c), byte(d)
					other(b)
				}
			}
		}
		for by := range tagSigns {
			other([]byte(s[:one] + s[one+by%(len(s)-one):] + s[one:one+by%(len(s)-one)]))
		}
	}
	// A change of one bit in two bytes at once, so that what is gathered by ^ comes to nothing.
	for one := len(head); one < len(s); one++ {
		for two := one + 1; two < len(s); two++ {
			for bit := range 7 {
				b := []byte(s)
				b[one] ^= 1 << bit
				b[two] ^= 1 << bit
				want, wantErr := opened(secret, string(b))
				checkOpen(t, secret, string(b), want, wantErr)
			}
		}
	}
	chance := rand.New(rand.NewSource(16))
	for range 20000 {
		b := []byte(s)
		for k := len(head); k < len(b); k++ {
			b[k] = webSigns[chance.Intn(64)]
		}
		other(b)
	}
}

// pieces are what a text's parts may be, right and wrong.
func pieces() [4][]string {
	return [4][]string{
		{"c", "a", "r", "", "x", "A", "ca", ".", "c."},
		{"f1", "f", "-_", strings.Repeat("Z", 32), "", strings.Repeat("Z", 33), "f.", ".f", "f 1", "\xff"},
		{"0", "7", "10", "1099511627776", "", "00", "07", "-1", "+7", "1099511627777", "18446744073709551616", "7.", ".7", "a", "1_0", "\xff"},
		{anyTag, "0123456789abc-_Z", "", anyTag[:15], anyTag + "A", anyTag[:15] + "=", anyTag[:15] + ".", anyTag[:14] + "==", anyTag[:15] + "\xff", "." + anyTag, "=" + anyTag, "\xff" + anyTag, anyTag + " "},
	}
}

// TestEachWithEach is of P16.2: each part, right or wrong, with each of the others, with and without each of the points.
func TestEachWithEach(t *testing.T) {
	all, good := pieces(), 0
	for _, letter := range all[0] {
		for _, family := range all[1] {
			for _, digits := range all[2] {
				for _, tag := range all[3] {
					for points := range 8 {
						s := letter
						for k, next := range []string{family, digits, tag} {
							if points&(1<<k) == 0 {
								s += "."
							}
							s += next
						}
						want, wantErr := peeked(s)
						if wantErr == api.OK {
							good++
						}
						if got, e := seal.Peek(s); got != want || e != wantErr {
							t.Errorf("Peek(%s): %v, %d; want %v, %d", shown(s), got, e, want, wantErr)
						}
						if points == 0 || wantErr == api.OK {
							want, wantErr = opened([]byte("secret"), s)
							checkOpen(t, []byte("secret"), s, want, wantErr)
						}
					}
				}
			}
		}
	}
	if good < 3*4*4*2 {
		t.Errorf("%d texts tell a token", good)
	}
}

// TestNoText is of P16.2: what is no text at all tells no token.
func TestNoText(t *testing.T) {
	checkNone(t, "")
	for c := range 256 {
		for _, n := range []int{1, 2, 15, 16, 17, 18, 23, 32, 64, 65, 66, 1000, 1 << 20} {
			if n > 1000 && c%16 != 14 {
				continue
			}
			checkNone(t, strings.Repeat(byteText(c), n))
		}
	}
	for _, s := range []string{"\xff\xfe\xfd", "\xed\xa0\x80", "\xf0\x9f\x94\x91", "\xc0\xae", "a\xc0\xaef1\xc0\xae7\xc0\xae" + anyTag, "a\u3002f1\u30027\u3002" + anyTag, "\uff41.f1.7." + anyTag, "a.f1.7." + strings.Repeat("\xff", 16), "a.f1.7." + strings.Repeat("\u00e9", 8), "a.f1.7." + strings.Repeat("\u00e9", 16), "\xef\xbb\xbfa.f1.7." + anyTag, "a.f1.7." + anyTag + "\n", "a.f1.7." + anyTag + "\x00", "Bearer a.f1.7." + anyTag, " a.f1.7." + anyTag, "a.f1.7." + anyTag + " ", "\"a.f1.7." + anyTag + "\"", "a.f1.7." + anyTag + "a.f1.7." + anyTag, "a.f1.7.a.f1.7." + anyTag, "a.f1.7." + anyTag + "." + anyTag} {
		checkNone(t, s)
	}
}

// TestLong is of P1: long texts, long families and long secrets have an answer, too.
func TestLong(t *testing.T) {
	long := 1 << 24
	for _, s := range []string{strings.Repeat(".", long), strings.Repeat("9", long), strings.Repeat("a.", long), "a." + strings.Repeat("f", long) + ".7." + anyTag, "a.f1." + strings.Repeat("0", long) + "." + anyTag, "a.f1." + strings.Repeat("9", long) + "." + anyTag, "a.f1.-" + strings.Repeat("9", long) + "." + anyTag, "a.f1.7." + strings.Repeat("A", long), strings.Repeat("a", long) + ".f1.7." + anyTag} {
		checkPeek(t, s, api.Token{}, api.ErrForm)
		checkOpen(t, []byte("secret"), s, api.Token{}, api.ErrForm)
	}
	checkToken(t, false, api.Token{Kind: 2, Family: strings.Repeat("f", long), Serial: 7})
	secret := bytes.Repeat([]byte("long"), 1<<18)
	checkMake(t, secret, few()[0])
}

// chancyToken is a token that is right, by chance.
func chancyToken(chance *rand.Rand) api.Token {
	family := make([]byte, 1+chance.Intn(maxFamily))
	for k := range family {
		family[k] = webSigns[chance.Intn(64)]
	}
	return api.Token{Kind: 1 + chance.Intn(3), Family: string(family), Serial: chance.Intn(1 << (1 + chance.Intn(40)))}
}

// TestTokensByChance is of P16.1 to P16.3: tokens and secrets by chance, and texts that are near to theirs.
func TestTokensByChance(t *testing.T) {
	chance := rand.New(rand.NewSource(161))
	for range 4000 {
		x := chancyToken(chance)
		secret := make([]byte, chance.Intn(140))
		chance.Read(secret)
		checkMake(t, secret, x)
		s := []byte(textOf(secret, x))
		for range 1 + chance.Intn(2) {
			at := chance.Intn(len(s))
			switch c := byte(chance.Intn(256)); chance.Intn(4) {
			case 0:
				s[at] = c
			case 1:
				s = slices.Insert(s, at, c)
			case 2:
				s = slices.Delete(s, at, at+1)
			case 3:
				s[at] = (webSigns + ".")[chance.Intn(65)]
			}
		}
		checkText(t, secret, string(s))
	}
}

// TestTextsByChance is of P16.2: texts of few signs, many of which tell a token, are what the definition says.
func TestTextsByChance(t *testing.T) {
	chance := rand.New(rand.NewSource(162))
	good := 0
	for range 200000 {
		var b strings.Builder
		for _, most := range []int{2, 3, 3} {
			n := chance.Intn(most + 1)
			if chance.Intn(4) > 0 {
				n = 1
			}
			for range n {
				b.WriteByte("carca01.-_0x"[chance.Intn(12)])
			}
			b.WriteString(".")
		}
		n := tagSigns
		if chance.Intn(4) == 0 {
			n = chance.Intn(20)
		}
		for range n {
			b.WriteByte("abcdeABCDE01-_"[chance.Intn(14)])
		}
		s := b.String()
		want, wantErr := peeked(s)
		if wantErr == api.OK {
			good++
		}
		if got, e := seal.Peek(s); got != want || e != wantErr {
			t.Fatalf("Peek(%q): %v, %d; want %v, %d", s, got, e, want, wantErr)
		}
		want, wantErr = opened([]byte("k"), s)
		if got, e := seal.Open([]byte("k"), s); got != want || e != wantErr {
			t.Fatalf("Open(%q): %v, %d; want %v, %d", s, got, e, want, wantErr)
		}
	}
	if good < 1000 {
		t.Errorf("%d texts tell a token", good)
	}
}

// texts are some, of memory that can be written over.
type texts struct {
	memory []byte
	was    string
}

func newTexts() *texts { return &texts{memory: make([]byte, 2000)} }

// put answers s, of that memory.
func (m *texts) put(s string) string {
	if s == "" {
		return ""
	}
	return unsafe.String(&m.putBytes(s)[0], len(s))
}

// putBytes answers the bytes of s, of that memory, with room behind their end.
func (m *texts) putBytes(s string) []byte {
	at := len(m.was)
	copy(m.memory[at:], s)
	m.was += s
	return m.memory[at : at+len(s)]
}

// spoil holds the memory against what was put there, and writes it over.
func (m *texts) spoil(t *testing.T) {
	t.Helper()
	if string(m.memory[:len(m.was)]) != m.was || strings.Trim(string(m.memory[len(m.was):]), "\x00") != "" {
		t.Errorf("changed: %q", m.memory)
	}
	for k := range m.memory {
		m.memory[k] = '!'
	}
}

// TestMemoryMake is of P16.4: the secret, the room behind it and the family stay as they are, and may be written over behind the call.
func TestMemoryMake(t *testing.T) {
	for _, x := range append(few(), api.Token{Kind: 4, Family: "f1"}, api.Token{Kind: 1, Family: "f.1"}, api.Token{Kind: 1, Family: strings.Repeat("f", 33)}, api.Token{Kind: 1, Family: "f1", Serial: -1}) {
		for _, n := range []int{0, 1, 12, 32, 63, 64, 65, 200} {
			m := newTexts()
			secret := m.putBytes(strings.Repeat("k", n))
			m.put("behind the secret")
			family := m.put(x.Family)
			m.put("behind the family")
			got, e := seal.Make(secret, api.Token{Kind: x.Kind, Family: family, Serial: x.Serial})
			is := seal.Right(api.Token{Kind: x.Kind, Family: family, Serial: x.Serial})
			m.spoil(t)
			want, wantErr := "", api.ErrArg
			if right(x) {
				want, wantErr = textOf(bytes.Repeat([]byte("k"), n), x), api.OK
			}
			if got != want || e != wantErr || is != right(x) {
				t.Errorf("%v: %q, %d; want %q, %d", x, got, e, want, wantErr)
			}
		}
	}
}

// TestMemoryText is of P16.4: the secret and the text stay as they are, and may be written over behind the call: the token that is answered stays.
func TestMemoryText(t *testing.T) {
	for _, x := range few() {
		for _, n := range []int{0, 1, 12, 32, 63, 64, 65, 200} {
			whole := bytes.Repeat([]byte("k"), n)
			right := textOf(whole, x)
			for _, text := range []string{right, headOf(x) + anyTag, right + "A", right[1:], right[:len(right)-1] + "=", ""} {
				m := newTexts()
				secret := m.putBytes(string(whole))
				m.put("behind the secret")
				s := m.put(text)
				m.put("behind the text")
				peekedAt, e1 := seal.Peek(s)
				openedAt, e2 := seal.Open(secret, s)
				m.spoil(t)
				if want, e := peeked(text); peekedAt != want || e1 != e {
					t.Errorf("Peek(%q): %v, %d; want %v, %d", text, peekedAt, e1, want, e)
				}
				if want, e := opened(whole, text); openedAt != want || e2 != e {
					t.Errorf("Open(%q): %v, %d; want %v, %d", text, openedAt, e2, want, e)
				}
			}
		}
	}
}

// overwrite writes over a text's own memory.
func overwrite(s string) {
	b := unsafe.Slice(unsafe.StringData(s), len(s))
	for k := range b {
		b[k] = '!'
	}
}

// TestMemoryOut is of P16.4, and of the document's rule of memory: what is answered is new memory, and may be written over: no other answer changes by it, nor what was handed in.
func TestMemoryOut(t *testing.T) {
	secret := []byte("secret")
	for _, x := range few() {
		want := textOf(secret, x)
		for range 3 {
			one, _ := seal.Make(secret, x)
			two, _ := seal.Make(secret, x)
			peekedAt, _ := seal.Peek(two)
			peekedAgain, _ := seal.Peek(two)
			openedAt, _ := seal.Open(secret, two)
			openedAgain, _ := seal.Open(secret, two)
			overwrite(one)
			overwrite(peekedAt.Family)
			overwrite(openedAt.Family)
			if two != want || peekedAgain != x || openedAgain != x || x.Family != strings.TrimRight(x.Family, "!") || string(secret) != "secret" {
				t.Errorf("%q, %v, %v; want %q, %v", two, peekedAgain, openedAgain, want, x)
			}
			overwrite(two)
			if peekedAgain != x || openedAgain != x {
				t.Errorf("%v, %v; want %v", peekedAgain, openedAgain, x)
			}
			checkMake(t, secret, x)
		}
	}
}

// TestAgain is of P16.1 and P16.2, and of the document's rule that answers hang on arguments alone: no call changes what another one answers, whatever went wrong between.
func TestAgain(t *testing.T) {
	secret, other := []byte("secret"), []byte("other")
	for range 3 {
		for _, x := range few() {
			s := textOf(secret, x)
			checkMake(t, secret, x)
			checkNone(t, s[1:])
			checkOpen(t, other, s, api.Token{}, api.ErrSum)
			checkOpen(t, secret, s, x, api.OK)
			checkNone(t, "")
			checkPeek(t, s, x, api.OK)
			checkToken(t, false, api.Token{Kind: x.Kind, Family: x.Family + ".", Serial: x.Serial})
			checkMake(t, other, x)
		}
	}
}

// TestAtOnce is of the same rule: calls that run at one time don't meddle with one another.
func TestAtOnce(t *testing.T) {
	done := make(chan string)
	for g := range 8 {
		go func() {
			secret, wrong := []byte("secret "+strconv.Itoa(g)), ""
			for n := range 300 {
				x := api.Token{Kind: 1 + n%3, Family: "f" + strconv.Itoa(g), Serial: n}
				s, e := seal.Make(secret, x)
				if s != textOf(secret, x) || e != api.OK {
					wrong += s + "; "
				}
				if got, e := seal.Open(secret, s); got != x || e != api.OK {
					wrong += "Open of " + s + "; "
				}
				if got, e := seal.Open(secret, headOf(x)+anyTag); got != (api.Token{}) || e != api.ErrSum {
					wrong += "Open behind " + s + "; "
				}
				if got, e := seal.Peek(s[2:]); got != (api.Token{}) || e != api.ErrForm {
					wrong += "Peek behind " + s + "; "
				}
			}
			done <- wrong
		}()
	}
	for range 8 {
		if wrong := <-done; wrong != "" {
			t.Errorf("%.200s", wrong)
		}
	}
}
