package octet_test

import (
	"bytes"
	"encoding/base64"
	"encoding/hex"
	"math/rand"
	"slices"
	"strings"
	"testing"

	"signet/api"
	"signet/octet"
)

// way is one of the three ways there and back, with another program's way there to hold it against.
type way struct {
	name  string
	there func([]byte) string
	back  func(string) ([]byte, api.Errno)
	other func([]byte) string
	signs string
}

func ways() []way {
	return []way{
		{"Hex", octet.Hex, octet.Unhex, hex.EncodeToString, "0123456789abcdef"},
		{"Web", octet.Web, octet.Unweb, base64.RawURLEncoding.EncodeToString, "ABCDEFGHIJKLMNOPQRSTUVWXYZabcdefghijklmnopqrstuvwxyz0123456789-_"},
		{"Basic", octet.Basic, octet.Unbasic, base64.StdEncoding.EncodeToString, "ABCDEFGHIJKLMNOPQRSTUVWXYZabcdefghijklmnopqrstuvwxyz0123456789+/="},
	}
}

// rows are rows of bytes: none, all of one byte, all of two, some of three, longer ones.
func rows() [][]byte {
	out := [][]byte{nil, {}}
	for a := range 256 {
		out = append(out, []byte{byte(a)})
		for b := range 256 {
			out = append(out, []byte{byte(a), byte(b)})
		}
	}
	chance := rand.New(rand.NewSource(1))
	for n := 3; n < 70; n++ {
		for range 100 {
			b := make([]byte, n)
			chance.Read(b)
			out = append(out, b)
		}
		out = append(out, bytes.Repeat([]byte{0}, n), bytes.Repeat([]byte{255}, n))
	}
	all := make([]byte, 256)
	for i := range all {
		all[i] = byte(i)
	}
	return append(out, all, bytes.Repeat(all, 300))
}

type pair struct{ bytes, text string }

func checkPairs(t *testing.T, w way, pairs []pair) {
	t.Helper()
	for _, p := range pairs {
		if s := w.there([]byte(p.bytes)); s != p.text {
			t.Errorf("%s(%q): %q, not %q", w.name, p.bytes, s, p.text)
		}
		if b, e := w.back(p.text); e != api.OK || string(b) != p.bytes {
			t.Errorf("Un%s(%q): %q, %d, not %q", w.name, p.text, b, e, p.bytes)
		}
	}
}

func checkRefused(t *testing.T, w way, texts ...string) {
	t.Helper()
	for _, s := range texts {
		if b, e := w.back(s); e != api.ErrForm || len(b) != 0 {
			t.Errorf("Un%s(%q): %q, %d, not refused", w.name, s, b, e)
		}
	}
}

// checkOthers holds a way there against another program's, at all rows.
func checkOthers(t *testing.T, w way) {
	t.Helper()
	for _, b := range rows() {
		if s := w.there(b); s != w.other(b) {
			t.Fatalf("%s(%x): %q, not %q", w.name, b, s, w.other(b))
		}
	}
}

// checkSigns asks whether a text is refused as soon as one of its bytes is no sign.
func checkSigns(t *testing.T, w way) {
	t.Helper()
	text := w.there([]byte("abcdef"))
	for at := range len(text) {
		for c := range 256 {
			if strings.IndexByte(w.signs, byte(c)) < 0 {
				checkRefused(t, w, text[:at]+string([]byte{byte(c)})+text[at+1:])
			}
		}
	}
}

// TestHex is of P1.1.
func TestHex(t *testing.T) {
	w := ways()[0]
	checkPairs(t, w, []pair{
		{"", ""}, {"\x00\xab", "00ab"}, {"\x01", "01"}, {"\x10", "10"}, {"\xff\x09\xa0", "ff09a0"},
		{"signet", "7369676e6574"},
	})
	checkRefused(t, w, "AB", "aB", "0A", "abc", "a", "0", "0g", "g0", "/0", "0:", "0`", " 00", "00 ", "0x00", "00\n", "0\x00", "é", "00=")
	checkOthers(t, w)
	checkSigns(t, w)
}

// TestWeb is of P1.2.
func TestWeb(t *testing.T) {
	w := ways()[1]
	checkPairs(t, w, []pair{
		{"", ""}, {"\xff", "_w"}, {"ab", "YWI"}, {"abc", "YWJj"}, {"abcd", "YWJjZA"},
		{"\x00", "AA"}, {"\x00\x00", "AAA"}, {"\x00\x00\x00", "AAAA"}, {"\xfb\xef\xbe", "----"}, {"\xff\xff\xff", "____"}, {"\xff\xff", "__8"},
	})
	checkRefused(t, w, "A", "_", "_x", "AB", "AAB", "__9", "__-", "AAAAA", "YWJjZ", "YWJjZB", "+w", "/w", "YWI=", "_w==", "=", " ", "YW I", "YWI\n", "\nYWI", "Y\rWI", "é", "YW\x00")
	checkOthers(t, w)
	checkSigns(t, w)
}

// TestBasic is of P1.3.
func TestBasic(t *testing.T) {
	w := ways()[2]
	checkPairs(t, w, []pair{
		{"", ""}, {"\xff", "/w=="}, {"ab", "YWI="}, {"abc", "YWJj"}, {"abcd", "YWJjZA=="},
		{"\x00", "AA=="}, {"\x00\x00", "AAA="}, {"\x00\x00\x00", "AAAA"}, {"\xfb\xef\xbe", "++++"}, {"\xff\xff\xff", "////"}, {"\xff\xff", "//8="},
	})
	checkRefused(t, w, "YWI", "/w", "/w=", "====", "=", "==", "===", "========", "A===", "/x==", "AB==", "AAB=", "//9=", "=/w=", "YW=I", "Y=WI", "=YWI", "==/w",
		"YWI==", "YWI=====", "YWJj=", "YWJj==", "YWJj====", "_w==", "-w==", "YWI=\n", "YW\nI=", "YWI= ", "YWI=YWI=", "/w==/w==", "A", "AAAAA", "é===")
	checkOthers(t, w)
	checkSigns(t, w)
}

// TestSame is of P1.4.
func TestSame(t *testing.T) {
	if !octet.Same(nil, nil) || !octet.Same(nil, []byte{}) || !octet.Same([]byte{}, nil) {
		t.Error("none and none aren't the same")
	}
	for _, b := range rows() {
		if !octet.Same(b, slices.Clone(b)) {
			t.Fatalf("%x isn't the same as itself", b)
		}
	}
	for _, p := range [][2]string{{"", "\x00"}, {"\x01", "\x01\x00"}, {"a", "b"}, {"ab", "ba"}, {"abc", "ab"}, {"abc", "abd"}, {"xbc", "abc"}, {"\x00\x01", "\x01\x00"}, {"\x03\x03", "\x01\x01"}, {"a", "A"}} {
		if octet.Same([]byte(p[0]), []byte(p[1])) || octet.Same([]byte(p[1]), []byte(p[0])) {
			t.Errorf("%q and %q are the same", p[0], p[1])
		}
	}
	for bit := range 8 * 9 {
		b := []byte("ninebytes")
		b[bit/8] ^= 1 << (bit % 8)
		if octet.Same(b, []byte("ninebytes")) {
			t.Errorf("another bit %d isn't seen", bit)
		}
	}
}

// TestThereAndBack is of P1.5, from the bytes' side.
func TestThereAndBack(t *testing.T) {
	for _, w := range ways() {
		for _, b := range rows() {
			if x, e := w.back(w.there(b)); e != api.OK || !bytes.Equal(x, b) {
				t.Fatalf("Un%s(%s(%x)): %x, %d", w.name, w.name, b, x, e)
			}
		}
	}
}

// TestBackAndThere is of P1.5, from the texts' side: a text is taken only if it is what its bytes are told as, and each that some bytes are told as is taken.
func TestBackAndThere(t *testing.T) {
	short := map[string]map[string]int{}
	for _, w := range ways() {
		short[w.name] = map[string]int{}
		for _, b := range rows() {
			if len(b) < 3 {
				short[w.name][w.there(b)] = 1
			}
		}
	}
	for _, w := range ways() {
		for _, s := range texts(w.signs) {
			b, e := w.back(s)
			if e != api.OK && (e != api.ErrForm || len(b) != 0) {
				t.Fatalf("Un%s(%q): %q beside %d", w.name, s, b, e)
			}
			if e == api.OK && w.there(b) != s {
				t.Fatalf("Un%s(%q): %q, of which %s is %q", w.name, s, b, w.name, w.there(b))
			}
			if e != api.OK && short[w.name][s] != 0 {
				t.Fatalf("Un%s(%q) is refused", w.name, s)
			}
		}
	}
}

// texts are all texts of three of the signs at most, and many of four and more, with wrong signs among them.
func texts(signs string) []string {
	var out []string
	signs += "=.\n"
	last := []string{""}
	for range 3 {
		var next []string
		for _, s := range last {
			for i := range len(signs) {
				next = append(next, s+signs[i:i+1])
			}
		}
		out = append(out, next...)
		last = next
	}
	chance := rand.New(rand.NewSource(2))
	for range 300000 {
		b := make([]byte, 4+chance.Intn(9))
		for i := range b {
			b[i] = signs[chance.Intn(len(signs))]
		}
		if chance.Intn(2) == 0 {
			copy(b[len(b)-1-chance.Intn(3):], "===")
		}
		out = append(out, string(b))
	}
	return out
}

// TestNothingChanged is of P1.6: what is handed in stays, and the room behind its end.
func TestNothingChanged(t *testing.T) {
	room := []byte("abcdefgh")
	for n := range 8 {
		for _, w := range ways() {
			w.there(room[:n])
		}
		octet.Same(room[:n], room[:n+1])
		octet.Same(room[:n], room[1:n+1])
	}
	if string(room) != "abcdefgh" {
		t.Errorf("changed to %q", room)
	}
}

// TestNewMemory is of P1.6: an answer that is written over changes no other answer, and no answer changes with what was handed in.
func TestNewMemory(t *testing.T) {
	for _, w := range ways() {
		for _, b := range [][]byte{{7}, {7, 8}, {7, 8, 9}, []byte("a longer row of bytes")} {
			in := slices.Clone(b)
			s := w.there(in)
			clear(in)
			if s != w.there(b) {
				t.Errorf("%s: the answer changes with what was handed in", w.name)
			}
			one, _ := w.back(s)
			two, _ := w.back(s)
			clear(one[:cap(one)])
			if three, _ := w.back(s); !bytes.Equal(two, b) || !bytes.Equal(three, b) {
				t.Errorf("Un%s: answers share memory", w.name)
			}
		}
	}
}

// TestEnds is of P1: texts of any bytes are answered.
func TestEnds(t *testing.T) {
	chance := rand.New(rand.NewSource(3))
	for n := range 400 {
		b := make([]byte, n)
		chance.Read(b)
		for _, w := range ways() {
			if x, e := w.back(string(b)); e == api.OK && w.there(x) != string(b) || e != api.OK && (e != api.ErrForm || len(x) != 0) {
				t.Errorf("Un%s(%q): %q, %d", w.name, b, x, e)
			}
		}
	}
	long := bytes.Repeat([]byte{0xfb, 0x00, 0x7f}, 1<<20)
	for _, w := range ways() {
		if x, e := w.back(w.there(long)); e != api.OK || !bytes.Equal(x, long) {
			t.Errorf("%s: a long row doesn't come back", w.name)
		}
	}
}
