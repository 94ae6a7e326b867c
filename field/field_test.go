package field_test

import (
	"bytes"
	"fmt"
	"math/rand"
	"net/url"
	"regexp"
	"slices"
	"strings"
	"testing"
	"unsafe"

	"signet/api"
	"signet/field"
)

const (
	letters = "ABCDEFGHIJKLMNOPQRSTUVWXYZabcdefghijklmnopqrstuvwxyz"
	plain   = letters + "0123456789" + "*-._"
)

// can tells by other means whether a text can be unquoted.
var can = regexp.MustCompile(`^(?:[\x21-\x24\x26-\x7e]|%[0-9A-Fa-f]{2})*$`)

// text is a byte as a text.
func text(c int) string { return string([]byte{byte(c)}) }

// quoted is s, quoted, by other means.
func quoted(s string) string {
	var out strings.Builder
	for _, c := range []byte(s) {
		switch {
		case strings.Contains(plain, text(int(c))):
			fmt.Fprintf(&out, "%c", c)
		case c == 32:
			fmt.Fprint(&out, "+")
		default:
			fmt.Fprintf(&out, "%%%02X", c)
		}
	}
	return out.String()
}

// unquoted is what s is unquoted, by other means.
func unquoted(s string) (string, api.Errno) {
	if !can.MatchString(s) {
		return "", api.ErrForm
	}
	out, err := url.QueryUnescape(s)
	if err != nil {
		return "", api.ErrForm
	}
	return out, api.OK
}

// printed is the form of l, by other means.
func printed(l []api.Pair) (string, api.Errno) {
	var out []string
	for _, p := range l {
		out = append(out, quoted(p.Name)+"="+quoted(p.Value))
	}
	s := strings.Join(out, "&")
	if len(l) > 64 || len(s) > 16384 {
		return "", api.ErrLong
	}
	return s, api.OK
}

// parsed is the pairs of s, by other means.
func parsed(s string) ([]api.Pair, api.Errno) {
	if len(s) > 16384 {
		return nil, api.ErrLong
	}
	var out []api.Pair
	for _, piece := range slices.DeleteFunc(strings.Split(s, "&"), func(p string) bool { return p == "" }) {
		both := append(strings.SplitN(piece, "=", 2), "")
		name, one := unquoted(both[0])
		value, two := unquoted(both[1])
		if len(out) == 64 {
			return nil, api.ErrLong
		}
		if one != api.OK || two != api.OK {
			return nil, api.ErrForm
		}
		out = append(out, api.Pair{Name: name, Value: value})
	}
	return out, api.OK
}

// chancy is a text of n bytes by chance: any bytes, or such as mean something.
func chancy(chance *rand.Rand, n int) string {
	b := make([]byte, n)
	chance.Read(b)
	if chance.Intn(3) > 0 {
		const signs = "%%%++&&==09afAFgG/:@`* ~!\x00\x7f\xff"
		for i := range b {
			b[i] = signs[int(b[i])%len(signs)]
		}
	}
	return string(b)
}

// pairs are n pairs by chance, of names and values of at most wide bytes each.
func pairs(chance *rand.Rand, n, wide int) []api.Pair {
	out := make([]api.Pair, n)
	for i := range out {
		out[i] = api.Pair{Name: chancy(chance, chance.Intn(wide+1)), Value: chancy(chance, chance.Intn(wide+1))}
	}
	return out
}

func checkQuote(t *testing.T, s, want string) {
	t.Helper()
	if got := field.Quote(s); got != want {
		t.Errorf("Quote(%.60q): %.60q, not %.60q", s, got, want)
	}
}

func checkUnquote(t *testing.T, s, want string, wantErr api.Errno) {
	t.Helper()
	if got, e := field.Unquote(s); got != want || e != wantErr {
		t.Errorf("Unquote(%.60q): %.60q, %d, not %.60q, %d", s, got, e, want, wantErr)
	}
}

func checkPrint(t *testing.T, l []api.Pair, want string, wantErr api.Errno) {
	t.Helper()
	if got, e := field.Print(l); got != want || e != wantErr {
		t.Errorf("Print of %d pairs, %.60q: %.60q, %d, not %.60q, %d", len(l), l, got, e, want, wantErr)
	}
}

func checkParse(t *testing.T, s string, want []api.Pair, wantErr api.Errno) {
	t.Helper()
	if got, e := field.Parse(s); !slices.Equal(got, want) || e != wantErr {
		t.Errorf("Parse(%.60q), %d bytes: %d pairs, %.60q, %d, not %d, %.60q, %d", s, len(s), len(got), got, e, len(want), want, wantErr)
	}
}

// checkRefused asks whether texts can't be unquoted: alone, as a name, as a value, behind a right piece and ahead of one.
func checkRefused(t *testing.T, texts ...string) {
	t.Helper()
	for _, s := range texts {
		checkUnquote(t, s, "", api.ErrForm)
		for _, form := range []string{s, s + "=", s + "=a", "=" + s, "a=" + s, "a==" + s, "a=b&" + s, s + "&a=b", "&&" + s + "&&"} {
			checkParse(t, form, nil, api.ErrForm)
		}
	}
}

// TestQuote is of P4.1: the chapter's examples, no bytes, every byte alone and among others.
func TestQuote(t *testing.T) {
	checkQuote(t, "a b&", "a+b%26")
	checkQuote(t, "", "")
	checkQuote(t, "*-._~", "*-._%7E")
	checkQuote(t, "+%", "%2B%25")
	checkQuote(t, "   ", "+++")
	checkQuote(t, "=&", "%3D%26")
	checkQuote(t, "a\x00z", "a%00z")
	checkQuote(t, "\xe4\x20\x2b\xff\x0a\xa0", "%E4+%2B%FF%0A%A0")
	checkQuote(t, "é€", "%C3%A9%E2%82%AC")
	checkQuote(t, "%41", "%2541")
	checkQuote(t, plain, plain)
	all := ""
	for c := range 256 {
		all += text(c)
		checkQuote(t, text(c), quoted(text(c)))
		checkQuote(t, "a"+text(c)+"b"+text(c), "a"+quoted(text(c))+"b"+quoted(text(c)))
		checkQuote(t, all, quoted(all))
	}
	if n := len(field.Quote(all)); n != 66+1+3*189 {
		t.Errorf("all bytes, quoted, are %d", n)
	}
	checkQuote(t, strings.Repeat(all, 300), strings.Repeat(quoted(all), 300))
}

// TestUnquote is of P4.1: the chapter's examples, no signs, every byte alone and among others, all that can stand behind a %.
func TestUnquote(t *testing.T) {
	checkUnquote(t, "%e4+%2B", "\xe4\x20\x2b", api.OK)
	checkUnquote(t, "", "", api.OK)
	checkUnquote(t, "a+b%26", "a b&", api.OK)
	checkUnquote(t, "%e4%E4%eF%Ef%aB%Ab%9f%F9", "\xe4\xe4\xef\xef\xab\xab\x9f\xf9", api.OK)
	checkUnquote(t, "%00%20%2b%25%7f%ff", "\x00 +%\x7f\xff", api.OK)
	checkUnquote(t, "%2541", "%41", api.OK)
	checkUnquote(t, "%25%34%31", "%41", api.OK)
	checkUnquote(t, "%410", "A0", api.OK)
	checkUnquote(t, "&=!~\"#'/\\", "&=!~\"#'/\\", api.OK)
	for c := range 256 {
		s := text(c)
		want, e := s, api.OK
		switch {
		case c < 33 || c > 126 || c == '%':
			want, e = "", api.ErrForm
		case c == '+':
			want = " "
		}
		checkUnquote(t, s, want, e)
		if e == api.OK {
			checkUnquote(t, s+s, want+want, e)
			checkUnquote(t, "x"+s+"%41", "x"+want+"A", e)
		}
	}
	for upper := range 256 {
		for lower := range 256 {
			s := "%" + text(upper) + text(lower)
			want, e := unquoted(s)
			checkUnquote(t, s, want, e)
		}
	}
	for c := range 256 {
		for _, s := range []string{fmt.Sprintf("%%%02x", c), fmt.Sprintf("%%%02X", c)} {
			checkUnquote(t, s, text(c), api.OK)
			checkUnquote(t, "+"+s+"9"+s, " "+text(c)+"9"+text(c), api.OK)
		}
	}
}

// TestUnquoteRefused is of P4.1 and P4.3: what can't be unquoted isn't, as a text or within a form.
func TestUnquoteRefused(t *testing.T) {
	checkRefused(t, "%4", "%", "a b", "%%", "%%%", "%%41", "%4%", "%4%31", "4%", "41%4", "a%", "a%f", "%g0", "%0g", "%G0", "%0G", "%zz", "%/0", "%:0", "%@0", "%`0", "%0/", "%0:", "%0@", "%0`",
		"% 4", "%4 ", "%+4", "%-4", "%0x", "%x4", "%\x004", "%4\x00", "%\xe4\xe4", "%41%", "%41%4", "% ", "%\n1")
	for c := range 256 {
		if c < 33 || c > 126 {
			checkRefused(t, text(c), "a"+text(c), text(c)+"a", "%41"+text(c)+"%42", "a"+text(c)+"b"+text(c), "%"+text(c)+"1", "%1"+text(c))
		}
		if !strings.Contains("0123456789ABCDEFabcdef&", text(c)) {
			checkUnquote(t, "%"+text(c)+"0", "", api.ErrForm)
			checkUnquote(t, "%0"+text(c), "", api.ErrForm)
		}
	}
	checkRefused(t, "é", "\u00a0", "\x7f", "\x20", "\x80", "\x1f", "\xff", "\x00")
	for n := range 300 {
		s := strings.Repeat("a", n)
		checkUnquote(t, s+"%", "", api.ErrForm)
		checkUnquote(t, s+"%4", "", api.ErrForm)
		checkUnquote(t, s+"%41", s+"A", api.OK)
		checkUnquote(t, s+" ", "", api.ErrForm)
	}
}

// TestPrint is of P4.2: the chapter's example, no pairs, empty names and values, signs that have to be quoted.
func TestPrint(t *testing.T) {
	checkPrint(t, []api.Pair{{Name: "a", Value: "1"}, {Name: "b c"}}, "a=1&b+c=", api.OK)
	checkPrint(t, nil, "", api.OK)
	checkPrint(t, []api.Pair{}, "", api.OK)
	checkPrint(t, []api.Pair{{}}, "=", api.OK)
	checkPrint(t, []api.Pair{{}, {}, {}}, "=&=&=", api.OK)
	checkPrint(t, []api.Pair{{Value: "x=y"}}, "=x%3Dy", api.OK)
	checkPrint(t, []api.Pair{{Name: "&=", Value: "=&"}, {Name: "+ %", Value: "\x00\xff"}}, "%26%3D=%3D%26&%2B+%25=%00%FF", api.OK)
	checkPrint(t, []api.Pair{{Name: "b", Value: "2"}, {Name: "a", Value: "1"}, {Name: "b", Value: "2"}}, "b=2&a=1&b=2", api.OK)
	chance := rand.New(rand.NewSource(1))
	for n := range 70 {
		for range 20 {
			l := pairs(chance, n, 10)
			want, e := printed(l)
			checkPrint(t, l, want, e)
		}
	}
}

// TestPrintMany is of P4.2: as many pairs as may be, and more.
func TestPrintMany(t *testing.T) {
	for n := range 200 {
		l := make([]api.Pair, n)
		want, e := strings.TrimPrefix(strings.Repeat("&=", n), "&"), api.OK
		if n > api.MaxPairs {
			want, e = "", api.ErrLong
		}
		checkPrint(t, l, want, e)
	}
	checkPrint(t, make([]api.Pair, 64), strings.Repeat("=&", 63)+"=", api.OK)
	checkPrint(t, make([]api.Pair, 65), "", api.ErrLong)
	checkPrint(t, make([]api.Pair, 1<<20), "", api.ErrLong)
}

// TestPrintLong is of P4.2: forms of just as many bytes as may be, one fewer, one more and many more, too long in a name, in a value, in a sign between and in a later pair.
func TestPrintLong(t *testing.T) {
	for _, sign := range []string{"a", " ", "%", "\x80"} {
		wide := len(quoted(sign))
		for n := (16384 - 10) / wide; n <= 16384/wide+3; n++ {
			long := strings.Repeat(sign, n)
			for _, l := range [][]api.Pair{
				{{Name: long}},
				{{Value: long}},
				{{Name: long[:n/2], Value: long[n/2:]}},
				{{Name: "a", Value: long}},
				{{Name: long, Value: "a"}},
				{{Name: long}, {}},
				{{}, {Name: long}},
				{{Name: "ab", Value: "c"}, {Value: long}},
				{{Name: long[n/2:]}, {Value: long[:n/2]}},
			} {
				want, e := printed(l)
				checkPrint(t, l, want, e)
			}
		}
	}
	a := strings.Repeat("a", 16383)
	checkPrint(t, []api.Pair{{Name: a}}, a+"=", api.OK)
	checkPrint(t, []api.Pair{{Value: a}}, "="+a, api.OK)
	checkPrint(t, []api.Pair{{Name: a + "a"}}, "", api.ErrLong)
	checkPrint(t, []api.Pair{{Value: a + "a"}}, "", api.ErrLong)
	checkPrint(t, []api.Pair{{Value: a[1:]}, {}}, "", api.ErrLong)
	checkPrint(t, []api.Pair{{Value: a[2:]}, {}}, "="+a[2:]+"&=", api.OK)
	checkPrint(t, []api.Pair{{Name: "b", Value: strings.Repeat("\x01", 5461)}}, "", api.ErrLong)
	checkPrint(t, []api.Pair{{Value: strings.Repeat("\x01", 5461)}}, "="+strings.Repeat("%01", 5461), api.OK)
}

// TestParse is of P4.3: the chapter's examples, pieces of all shapes.
func TestParse(t *testing.T) {
	checkParse(t, "&a=1&&b+c&=x=y", []api.Pair{{Name: "a", Value: "1"}, {Name: "b c"}, {Value: "x=y"}}, api.OK)
	checkParse(t, "a=%zz", nil, api.ErrForm)
	for s, p := range map[string]api.Pair{
		"a": {Name: "a"}, "a=": {Name: "a"}, "=a": {Value: "a"}, "=": {}, "==": {Value: "="}, "===": {Value: "=="},
		"a=b=c": {Name: "a", Value: "b=c"}, "a==b": {Name: "a", Value: "=b"}, "a=b=": {Name: "a", Value: "b="}, "==a": {Value: "=a"},
		"%3D": {Name: "="}, "%3d=%3D": {Name: "=", Value: "="}, "%26=%26": {Name: "&", Value: "&"}, "a%3Db=c": {Name: "a=b", Value: "c"},
		"+": {Name: " "}, "+=+": {Name: " ", Value: " "}, "%2B=%2b": {Name: "+", Value: "+"}, "%00=%ff": {Name: "\x00", Value: "\xff"},
		"a=?;/~": {Name: "a", Value: "?;/~"}, "a;b=c": {Name: "a;b", Value: "c"}, "A=%41": {Name: "A", Value: "A"}, "%25=%2541": {Name: "%", Value: "%41"},
	} {
		x := api.Pair{Name: "x"}
		checkParse(t, s, []api.Pair{p}, api.OK)
		checkParse(t, s+"&"+s, []api.Pair{p, p}, api.OK)
		checkParse(t, "x&"+s, []api.Pair{x, p}, api.OK)
		checkParse(t, s+"&x", []api.Pair{p, x}, api.OK)
		checkParse(t, "&&&"+s+"&&x&&&"+s+"&&&", []api.Pair{p, x, p}, api.OK)
	}
	for n := range 20 {
		checkParse(t, strings.Repeat("&", n), nil, api.OK)
		checkParse(t, strings.Repeat("&", n)+"a", []api.Pair{{Name: "a"}}, api.OK)
		checkParse(t, "=a"+strings.Repeat("&", n), []api.Pair{{Value: "a"}}, api.OK)
		checkParse(t, "a"+strings.Repeat("&", n+1)+"b", []api.Pair{{Name: "a"}, {Name: "b"}}, api.OK)
	}
	for _, s := range []string{"a&%", "%&a", "a=b&c=%4&d", "a=b&c%4=d&e", "a=%4&31", "a%=3D", "a=%3&D", "a b", "a=b c", "a=b &c", "a=b& c", "&\n", "\r\n", "a=1\n", "é=1", "1=é", "=%", "%=", "\x00", "a&\x7f&b"} {
		checkParse(t, s, nil, api.ErrForm)
	}
}

// TestParseMany is of P4.3: as many pieces as may be and more, empty ones among them, which don't count; a wrong piece at every place.
func TestParseMany(t *testing.T) {
	for n := range 140 {
		pieces := make([]string, n)
		for i := range pieces {
			pieces[i] = fmt.Sprintf("n%d=v%d", i, i)
		}
		for _, between := range []string{"&", "&&", "&&&&&"} {
			s := strings.Join(pieces, between)
			want, e := parsed(s)
			if (e == api.OK) != (n <= 64) || (e == api.ErrLong) != (n > 64) {
				t.Fatalf("%d pieces: %d", n, e)
			}
			checkParse(t, s, want, e)
			checkParse(t, between+s+between, want, e)
		}
		for at := range n {
			for _, wrong := range []string{"%", "n=%4", " =v"} {
				spoilt := slices.Clone(pieces)
				spoilt[at] = wrong
				e := api.ErrForm
				if at >= 64 {
					e = api.ErrLong
				}
				checkParse(t, strings.Join(spoilt, "&"), nil, e)
				checkParse(t, "&"+strings.Join(spoilt, "&&")+"&&", nil, e)
			}
		}
	}
	checkParse(t, strings.Repeat("=&", 64), make([]api.Pair, 64), api.OK)
	checkParse(t, strings.Repeat("=&", 64)+"=", nil, api.ErrLong)
	checkParse(t, strings.Repeat("&", 16384), nil, api.OK)
	checkParse(t, strings.Repeat("&", 16383)+"a", []api.Pair{{Name: "a"}}, api.OK)
	checkParse(t, strings.Repeat("&a", 8192), nil, api.ErrLong)
}

// TestParseLong is of P4.3: forms of just as many bytes as may be, and of more, right and wrong ones.
func TestParseLong(t *testing.T) {
	for n := 16370; n < 16400; n++ {
		long := strings.Repeat("a", n)
		for _, s := range []string{long, long[:n-1] + "=", "=" + long[1:], strings.Repeat("&", n), strings.Repeat("&", n-1) + "a", long[:n/2] + "&" + long[n/2+1:], long[:n-1] + "%", "%" + long[1:], long[:n-1] + " ", long[:n-3] + "%41"} {
			want, e := parsed(s)
			if len(s) != n || n > 16384 && e != api.ErrLong {
				t.Fatalf("%d bytes of %d: %d", len(s), n, e)
			}
			checkParse(t, s, want, e)
		}
	}
	a := strings.Repeat("a", 16384)
	checkParse(t, a, []api.Pair{{Name: a}}, api.OK)
	checkParse(t, "="+a[1:], []api.Pair{{Value: a[1:]}}, api.OK)
	checkParse(t, a+"a", nil, api.ErrLong)
	checkParse(t, a+"&", nil, api.ErrLong)
	checkParse(t, a+"%", nil, api.ErrLong)
	checkParse(t, "%"+a, nil, api.ErrLong)
	checkParse(t, a[1:]+"%", nil, api.ErrForm)
	checkParse(t, strings.Repeat("\x00", 16385), nil, api.ErrLong)
	checkParse(t, strings.Repeat("\x00", 16384), nil, api.ErrForm)
	checkParse(t, strings.Repeat("%41", 5461)+"=", []api.Pair{{Name: strings.Repeat("A", 5461)}}, api.OK)
}

// TestAllShort is of P4.1 and P4.3: all texts of five signs at most, of those that mean something.
func TestAllShort(t *testing.T) {
	last := []string{""}
	for range 6 {
		var next []string
		for _, s := range last {
			want, e := unquoted(s)
			checkUnquote(t, s, want, e)
			l, e := parsed(s)
			checkParse(t, s, l, e)
			for _, sign := range []string{"%", "4", "b", "F", "g", "+", "&", "=", " "} {
				next = append(next, s+sign)
			}
		}
		last = next
	}
}

// TestByChance is of P4.1 and P4.3: texts and forms by chance.
func TestByChance(t *testing.T) {
	chance := rand.New(rand.NewSource(2))
	right := 0
	for range 100000 {
		s := chancy(chance, chance.Intn(12))
		checkQuote(t, s, quoted(s))
		want, e := unquoted(s)
		checkUnquote(t, s, want, e)
		l, e := parsed(s)
		checkParse(t, s, l, e)
		if e == api.OK && len(l) > 1 {
			right++
		}
	}
	if right < 1000 {
		t.Errorf("only %d forms of two pairs and more were right", right)
	}
}

// TestGet is of P4.4: names that none, one and several pairs have, the empty name, the empty value.
func TestGet(t *testing.T) {
	l := []api.Pair{{Name: "a", Value: "1"}, {Name: "b", Value: "2"}, {Name: "a", Value: "3"}, {Name: "c"}, {Name: "c", Value: "4"}, {Name: "a", Value: "1"}, {Value: "5"}, {Name: "d", Value: "d"}, {Name: "\xff ", Value: "\x00"}}
	for _, c := range []struct {
		name, value string
		n           int
	}{
		{"a", "1", 3}, {"b", "2", 1}, {"c", "", 2}, {"", "5", 1}, {"d", "d", 1}, {"\xff ", "\x00", 1},
		{"A", "", 0}, {"ab", "", 0}, {"1", "", 0}, {"\xff+", "", 0}, {"%FF ", "", 0}, {"a ", "", 0}, {" a", "", 0}, {"a\x00", "", 0},
	} {
		if v, n := field.Get(l, c.name); v != c.value || n != c.n {
			t.Errorf("Get of %q: %q, %d, not %q, %d", c.name, v, n, c.value, c.n)
		}
		for _, none := range [][]api.Pair{nil, {}} {
			if v, n := field.Get(none, c.name); v != "" || n != 0 {
				t.Errorf("Get of %q in no pairs: %q, %d", c.name, v, n)
			}
		}
	}
}

// TestGetMany is of P4.4: lists of many pairs, more than a form's among them.
func TestGetMany(t *testing.T) {
	chance := rand.New(rand.NewSource(3))
	for n := range 300 {
		l := make([]api.Pair, n)
		for i := range l {
			l[i] = api.Pair{Name: fmt.Sprint(chance.Intn(20)), Value: fmt.Sprint(i)}
		}
		total := 0
		for k := range 21 {
			name := fmt.Sprint(k)
			at := slices.IndexFunc(l, func(p api.Pair) bool { return p.Name == name })
			v, count := field.Get(l, name)
			total += count
			if at < 0 && (v != "" || count != 0) || at >= 0 && (v != l[at].Value || count < 1) {
				t.Errorf("Get of %q in %d pairs: %q, %d", name, n, v, count)
			}
		}
		if total != n {
			t.Errorf("%d pairs have names, of %d", total, n)
		}
		same := make([]api.Pair, n)
		if _, count := field.Get(same, ""); count != n {
			t.Errorf("%d pairs of one name are %d", n, count)
		}
	}
}

// TestThereAndBack is of P4.5: what is quoted is unquoted to what it was, what is printed is parsed to the same pairs.
func TestThereAndBack(t *testing.T) {
	chance := rand.New(rand.NewSource(4))
	for a := range 256 {
		for b := range 256 {
			s := text(a) + text(b)
			checkUnquote(t, field.Quote(s), s, api.OK)
			l := []api.Pair{{Name: text(a), Value: text(b)}, {Value: s}, {Name: s}}
			form, e := field.Print(l)
			if e != api.OK {
				t.Fatalf("Print of %q: %d", l, e)
			}
			checkParse(t, form, l, api.OK)
		}
	}
	for n := range 65 {
		for wide := range 40 {
			l := pairs(chance, n, wide)
			form, e := field.Print(l)
			if e != api.OK {
				t.Fatalf("Print of %d pairs: %d", n, e)
			}
			checkParse(t, form, l, api.OK)
			s := chancy(chance, n*wide)
			checkUnquote(t, field.Quote(s), s, api.OK)
		}
	}
	checkParse(t, "="+field.Quote(strings.Repeat("a", 16383)), []api.Pair{{Value: strings.Repeat("a", 16383)}}, api.OK)
}

// shared tells whether two texts share memory.
func shared(a, b string) bool {
	if a == "" || b == "" {
		return false
	}
	one, two := uintptr(unsafe.Pointer(unsafe.StringData(a))), uintptr(unsafe.Pointer(unsafe.StringData(b)))
	return one < two+uintptr(len(b)) && two < one+uintptr(len(a))
}

// checkApart asks whether no two of the texts share memory.
func checkApart(t *testing.T, what string, texts ...string) {
	t.Helper()
	for i, a := range texts {
		for _, b := range texts[:i] {
			if shared(a, b) {
				t.Errorf("%s: %.40q and %.40q share memory", what, a, b)
			}
		}
	}
}

// spread are the texts of pairs.
func spread(l []api.Pair) []string {
	var out []string
	for _, p := range l {
		out = append(out, p.Name, p.Value)
	}
	return out
}

// TestNewMemory is of P4.6: answers share no memory with what was handed in, nor with other answers, nor within themselves.
func TestNewMemory(t *testing.T) {
	for _, s := range []string{"a", "ab", "a+b", " ", "%41", "long" + strings.Repeat("a", 100), "a=b", "a&b", "%"} {
		one, two := field.Quote(s), field.Quote(s)
		checkApart(t, "Quote", s, one, two)
		three, _ := field.Unquote(s)
		four, _ := field.Unquote(s)
		checkApart(t, "Unquote", s, one, three, four)
	}
	for _, l := range [][]api.Pair{{{Name: "a"}}, {{Value: "abc"}}, {{Name: "abc", Value: "abcd"}, {Name: "e", Value: strings.Repeat("f", 50)}}} {
		one, _ := field.Print(l)
		two, _ := field.Print(l)
		checkApart(t, "Print", append(spread(l), one, two)...)
		for _, p := range l {
			three, _ := field.Get(l, p.Name)
			four, _ := field.Get(l, p.Name)
			checkApart(t, "Get", append(spread(l), three, four)...)
		}
	}
	for _, s := range []string{"a", "abc", "abc=def", "=abc", "abc&def", "a=b&c=d&&e", "a=a&a=a", "+=%41", strings.Repeat("name=value&", 20)} {
		one, _ := field.Parse(s)
		two, _ := field.Parse(s)
		was := slices.Clone(two)
		checkApart(t, "Parse", append(append(spread(one), spread(two)...), s)...)
		clear(one[:cap(one)])
		three, _ := field.Parse(s)
		if !slices.Equal(two, was) || !slices.Equal(three, was) {
			t.Errorf("Parse(%q): lists share memory", s)
		}
	}
}

// TestNothingChanged is of P4.6: pairs and bytes that are handed in stay, and those behind their end; asked again, the answer is the same.
func TestNothingChanged(t *testing.T) {
	chance := rand.New(rand.NewSource(5))
	room := pairs(chance, 80, 6)
	was := slices.Clone(room)
	for n := range 79 {
		one, e := field.Print(room[:n])
		checkPrint(t, room[:n], one, e)
		field.Get(room[:n], room[n].Name)
		field.Get(room[:n+1], room[n/2].Name)
		if !slices.Equal(room, was) {
			t.Fatalf("%d pairs were changed", n)
		}
	}
	for range 300 {
		raw := []byte(chancy(chance, 40))
		kept := bytes.Clone(raw)
		for n := 1; n < len(raw); n++ {
			s := unsafe.String(&raw[0], n)
			l, e := field.Parse(s)
			checkParse(t, s, l, e)
			u, e := field.Unquote(s)
			checkUnquote(t, s, u, e)
			checkQuote(t, s, field.Quote(s))
			field.Get([]api.Pair{{Name: s, Value: s}}, s)
			field.Print([]api.Pair{{Name: s, Value: s}})
			if !bytes.Equal(raw, kept) {
				t.Fatalf("%q was changed to %q", kept, raw)
			}
		}
	}
}

// TestNothingKept is of P4.6: pairs that are written over behind a call don't tell in the next, nor in what was answered.
func TestNothingKept(t *testing.T) {
	l := []api.Pair{{Name: "a", Value: "1"}, {Name: "b", Value: "2"}}
	form, _ := field.Print(l)
	v, _ := field.Get(l, "b")
	l[0], l[1] = api.Pair{Name: "c", Value: "3"}, api.Pair{Name: "b", Value: "4"}
	if form != "a=1&b=2" || v != "2" {
		t.Errorf("answers change: %q, %q", form, v)
	}
	checkPrint(t, l, "c=3&b=4", api.OK)
	if v, n := field.Get(l, "b"); v != "4" || n != 1 {
		t.Errorf("Get of b: %q, %d", v, n)
	}
	checkParse(t, "a=1", []api.Pair{{Name: "a", Value: "1"}}, api.OK)
	checkParse(t, "b=%", nil, api.ErrForm)
	checkParse(t, "b", []api.Pair{{Name: "b"}}, api.OK)
}

// TestEnds is of P1: long texts, and pairs that are far longer than a form, are answered.
func TestEnds(t *testing.T) {
	long := chancy(rand.New(rand.NewSource(6)), 1<<22)
	checkUnquote(t, field.Quote(long), long, api.OK)
	checkUnquote(t, long, "", api.ErrForm)
	checkParse(t, long, nil, api.ErrLong)
	checkUnquote(t, strings.Repeat("%41", 1<<20), strings.Repeat("A", 1<<20), api.OK)
	zeros := strings.Repeat("\x00", 1<<24)
	checkPrint(t, slices.Repeat([]api.Pair{{Name: zeros, Value: zeros}}, 64), "", api.ErrLong)
	if v, n := field.Get(slices.Repeat([]api.Pair{{Name: "a", Value: zeros}}, 1<<16), "a"); v != zeros || n != 1<<16 {
		t.Errorf("Get of a long value: %d bytes, %d", len(v), n)
	}
}
