package json_test

import (
	"bytes"
	standard "encoding/json"
	"fmt"
	"io"
	"math"
	"math/big"
	"math/rand"
	"regexp"
	"slices"
	"strings"
	"testing"
	"unsafe"

	"signet/api"
	"signet/json"
)

const (
	stringForm = `"(?:[ !#-\[\]-~]|\\["\\]|\\u00(?:[01][0-9a-f]|7f|[89a-f][0-9a-f]))*"`
	memberForm = stringForm + `:(?:` + stringForm + `|true|false|0|-?[1-9][0-9]*)`
)

// form tells by other means whether a text is that of members, but for what their names and their ints' sizes say.
var form = regexp.MustCompile(`\A\{(?:` + memberForm + `(?:,` + memberForm + `){0,63})?\}\z`)

// byteText is a byte as a text.
func byteText(c int) string { return string([]byte{byte(c)}) }

// told is s as a string of an object, by other means.
func told(s string) string {
	var out []string
	for _, c := range []byte(s) {
		switch {
		case c < 0x20 || c >= 0x7f:
			out = append(out, fmt.Sprintf("\\u%04x", c))
		case strings.ContainsAny(byteText(int(c)), "\"\\"):
			out = append(out, "\\"+byteText(int(c)))
		default:
			out = append(out, byteText(int(c)))
		}
	}
	return "\"" + strings.Join(out, "") + "\""
}

// printed is the text of l, by other means.
func printed(l []api.Member) (string, api.Errno) {
	if len(l) > 64 {
		return "", api.ErrLong
	}
	var out []string
	for i, m := range l {
		var value string
		switch m {
		case api.Member{Name: m.Name, Kind: 0, Text: m.Text}:
			value = told(m.Text)
		case api.Member{Name: m.Name, Kind: 1, N: m.N}:
			value = fmt.Sprint(m.N)
		case api.Member{Name: m.Name, Kind: 2, B: m.B}:
			value = fmt.Sprint(m.B)
		default:
			return "", api.ErrForm
		}
		for _, other := range l[:i] {
			if other.Name == m.Name {
				return "", api.ErrForm
			}
		}
		out = append(out, told(m.Name)+":"+value)
	}
	s := "{" + strings.Join(out, ",") + "}"
	if len(s) > 16384 {
		return "", api.ErrLong
	}
	return s, api.OK
}

// raw are the bytes of a string that was read as one of runes below 256.
func raw(s string) string {
	var out []byte
	for _, r := range s {
		out = append(out, byte(r))
	}
	return string(out)
}

// parsed is the members of s, by other means.
func parsed(s string) ([]api.Member, api.Errno) {
	if len(s) > 16384 {
		return nil, api.ErrLong
	}
	if !form.MatchString(s) {
		return nil, api.ErrForm
	}
	in := standard.NewDecoder(strings.NewReader(s))
	in.UseNumber()
	var words []standard.Token
	for {
		w, err := in.Token()
		if err == io.EOF {
			break
		}
		if err != nil {
			panic(err)
		}
		words = append(words, w)
	}
	words = words[1 : len(words)-1]
	var out []api.Member
	for i := 0; i < len(words); i += 2 {
		m := api.Member{Name: raw(words[i].(string))}
		switch v := words[i+1].(type) {
		case string:
			m.Kind, m.Text = 0, raw(v)
		case standard.Number:
			n, _ := new(big.Int).SetString(string(v), 10)
			if !n.IsInt64() {
				return nil, api.ErrForm
			}
			m.Kind, m.N = 1, int(n.Int64())
		case bool:
			m.Kind, m.B = 2, v
		}
		if slices.ContainsFunc(out, func(o api.Member) bool { return o.Name == m.Name }) {
			return nil, api.ErrForm
		}
		out = append(out, m)
	}
	return out, api.OK
}

// chancy is a text of n bytes by chance: any bytes, or such as mean something.
func chancy(chance *rand.Rand, n int) string {
	b := make([]byte, n)
	chance.Read(b)
	if chance.Intn(2) > 0 {
		const signs = "\"\"\\\\{},:u00truefalse-019afAF \x00\x1f\x7f\x80\xff~"
		for i := range b {
			b[i] = signs[int(b[i])%len(signs)]
		}
	}
	return string(b)
}

// chancyInt is an int by chance, of any size.
func chancyInt(chance *rand.Rand) int {
	return int(chance.Uint64()) >> chance.Intn(64)
}

// members are n members by chance, of unlike names, of names and texts of at most wide bytes each, and of a number.
func members(chance *rand.Rand, n, wide int) []api.Member {
	out := make([]api.Member, n)
	for i := range out {
		name := fmt.Sprintf("%d ", i) + chancy(chance, chance.Intn(wide+1))
		switch chance.Intn(3) {
		case 0:
			out[i] = api.Member{Name: name, Kind: 0, Text: chancy(chance, chance.Intn(wide+1))}
		case 1:
			out[i] = api.Member{Name: name, Kind: 1, N: chancyInt(chance)}
		case 2:
			out[i] = api.Member{Name: name, Kind: 2, B: chance.Intn(2) == 0}
		}
	}
	return out
}

// numbered are n members of unlike names.
func numbered(n int) []api.Member {
	out := make([]api.Member, n)
	for i := range out {
		out[i] = api.Member{Name: fmt.Sprint("m", i), Kind: 1, N: i}
	}
	return out
}

// show is how members are shown where a test fails.
func show(l ...api.Member) string {
	return fmt.Sprintf("%.100q", fmt.Sprintf("%+v", l))
}

func checkPrint(t *testing.T, l []api.Member, want string, wantErr api.Errno) {
	t.Helper()
	if got, e := json.Print(l...); got != want || e != wantErr {
		t.Errorf("Print of %d members, %s: %.80q, %d, not %.80q, %d", len(l), show(l...), got, e, want, wantErr)
	}
}

func checkParse(t *testing.T, s string, want []api.Member, wantErr api.Errno) {
	t.Helper()
	if got, e := json.Parse(s); !slices.Equal(got, want) || e != wantErr {
		t.Errorf("Parse(%.80q), %d bytes: %d members, %s, %d, not %d, %s, %d", s, len(s), len(got), show(got...), e, len(want), show(want...), wantErr)
	}
}

// checkPrinted holds what Print answers against the same by other means.
func checkPrinted(t *testing.T, l ...api.Member) {
	t.Helper()
	want, wantErr := printed(l)
	checkPrint(t, l, want, wantErr)
}

// checkParsed holds what Parse answers against the same by other means.
func checkParsed(t *testing.T, s string) {
	t.Helper()
	want, wantErr := parsed(s)
	checkParse(t, s, want, wantErr)
}

// checkBoth asks whether these members have that text, printed and parsed.
func checkBoth(t *testing.T, s string, l ...api.Member) {
	t.Helper()
	checkPrint(t, l, s, api.OK)
	checkParse(t, s, l, api.OK)
}

// checkRefused asks whether the texts are none of an object.
func checkRefused(t *testing.T, texts ...string) {
	t.Helper()
	for _, s := range texts {
		checkParse(t, s, nil, api.ErrForm)
	}
}

// checkNoValue asks whether texts are no values: alone, ahead of a member and behind one.
func checkNoValue(t *testing.T, values ...string) {
	t.Helper()
	for _, v := range values {
		checkRefused(t, `{"a":`+v+`}`, `{"":`+v+`,"b":1}`, `{"b":1,"a":`+v+`}`, `{"a":`+v, `{"a":`+v+`,}`, `{"a":`+v+`}}`)
	}
}

// TestMembers is of P5.1: the members that Text, Int and Bool answer.
func TestMembers(t *testing.T) {
	for _, name := range []string{"", "a", "é\"", strings.Repeat("n", 1000)} {
		for _, s := range []string{"", "b", "\x00\\", strings.Repeat("s", 20000)} {
			if got, want := json.Text(name, s), (api.Member{Name: name, Kind: 0, Text: s}); got != want {
				t.Errorf("Text(%.20q, %.20q): %s", name, s, show(got))
			}
		}
		for _, n := range []int{0, 1, -1, 77, math.MaxInt, math.MinInt} {
			if got, want := json.Int(name, n), (api.Member{Name: name, Kind: 1, N: n}); got != want {
				t.Errorf("Int(%.20q, %d): %s", name, n, show(got))
			}
		}
		for _, b := range []bool{false, true} {
			if got, want := json.Bool(name, b), (api.Member{Name: name, Kind: 2, B: b}); got != want {
				t.Errorf("Bool(%.20q, %t): %s", name, b, show(got))
			}
		}
	}
}

// TestExamples is of P5.1 and P5.2: the chapter's examples, and their likes.
func TestExamples(t *testing.T) {
	checkBoth(t, `{"active":true,"n":-5,"s":"a\""}`, json.Bool("active", true), json.Int("n", -5), json.Text("s", `a"`))
	checkBoth(t, `{}`)
	checkRefused(t, `{"a":01}`, `{"a":1,"a":2}`, `{"a": 1}`, `{"a":-0}`)
	checkBoth(t, `{"error":"invalid_request"}`, json.Text("error", "invalid_request"))
	checkBoth(t, `{"":""}`, json.Text("", ""))
	checkBoth(t, `{"a":false,"b":true,"c":0}`, json.Bool("a", false), json.Bool("b", true), json.Int("c", 0))
	checkBoth(t, `{"true":"true","false":"0","1":"{},:"}`, json.Text("true", "true"), json.Text("false", "0"), json.Text("1", "{},:"))
	checkBoth(t, `{"\"\\":"\\u0041\\\"\u0000"}`, json.Text(`"\`, "\\u0041\\\"\x00"))
	if l, e := json.Parse("{}"); len(l) != 0 || e != api.OK {
		t.Errorf("Parse of no members: %s, %d", show(l...), e)
	}
}

// TestBytes is of P5.1 and P5.2: names and texts of every byte, alone, among others, two of them, and all.
func TestBytes(t *testing.T) {
	all := ""
	for c := range 256 {
		s := byteText(c)
		want := s
		switch {
		case c == 34:
			want = `\"`
		case c == 92:
			want = `\\`
		case c < 32 || c > 126:
			want = fmt.Sprintf(`\u00%02x`, c)
		}
		checkBoth(t, `{"`+want+`":1}`, json.Int(s, 1))
		checkBoth(t, `{"a":"`+want+`"}`, json.Text("a", s))
		checkBoth(t, `{"a`+want+`b":"c`+want+`d"}`, json.Text("a"+s+"b", "c"+s+"d"))
		all += s
		checkBoth(t, `{`+told(all)+`:true}`, json.Bool(all, true))
		checkBoth(t, `{"a":`+told(all)+`,`+told(all)+`:1}`, json.Text("a", all), json.Int(all, 1))
		for d := range 256 {
			two := s + byteText(d)
			checkBoth(t, `{"":`+told(two)+`}`, json.Text("", two))
		}
	}
	if s, _ := json.Print(json.Text("", all)); len(s) != len(`{"":""}`)+95+2+161*6 {
		t.Errorf("all bytes are told by %d", len(s))
	}
}

// TestInts is of P5.1 and P5.2: ints by one text each, the greatest, the least, and texts of none.
func TestInts(t *testing.T) {
	checkBoth(t, `{"a":9223372036854775807}`, json.Int("a", math.MaxInt))
	checkBoth(t, `{"a":-9223372036854775808}`, json.Int("a", math.MinInt))
	checkBoth(t, `{"a":9223372036854775806,"b":-9223372036854775807}`, json.Int("a", math.MaxInt-1), json.Int("b", math.MinInt+1))
	checkBoth(t, `{"a":0}`, json.Int("a", 0))
	for n := range 1200 {
		checkBoth(t, fmt.Sprintf(`{"a":%d,"b":-%d}`, n, n+1), json.Int("a", n), json.Int("b", -n-1))
		checkNoValue(t, fmt.Sprint("0", n), fmt.Sprint("-0", n), fmt.Sprint("+", n), fmt.Sprint("--", n), fmt.Sprint(n, "-"))
	}
	for bit := range 63 {
		n := 1 << bit
		checkBoth(t, fmt.Sprintf(`{"a":%d,"b":%d,"c":%d}`, n, -n, ^n), json.Int("a", n), json.Int("b", -n), json.Int("c", ^n))
	}
	checkNoValue(t, "9223372036854775808", "-9223372036854775809", "10000000000000000000", "18446744073709551615", "18446744073709551616",
		"18446744073709551617", "-18446744073709551616", "99999999999999999999", "340282366920938463463374607431768211456")
	checkNoValue(t, "", "-", "+", "-0", "+0", "00", "01", "-01", "000", "+1", "1+", "-+1", "+-1", "1-1", "1.0", "1.", ".1", "1e0", "1e1", "1E2", "0x1", "0b1", "0o7",
		"1_0", "0_0", "0x_1", "1 ", " 1", "- 1", "1\t", "\n1", "1\x00", "a", "1a", "Inf", "NaN", "nan", "-Infinity", "٣", "１", "0-", "1,2", "1:2")
	checkNoValue(t, "1"+strings.Repeat("0", 16000), strings.Repeat("0", 16000), strings.Repeat("9", 16000), "-"+strings.Repeat("1", 16000))
}

// TestNoValues is of P5.2: values that are none, as of other objects' texts.
func TestNoValues(t *testing.T) {
	checkNoValue(t, "null", "True", "TRUE", "False", "tru", "fals", "t", "f", "truee", "falsee", "true1", "1true", "truefalse", "tRue", "true ", " true", "\"\"true", "true\"\"",
		"[]", "[1]", "{}", `{"b":1}`, "'a'", "`a`", "a", `"`, `""a`, `a""`, `"a"b"`, `"a`, `a"`, `"a""b"`, `"a" `, ` "a"`, `""""`, "\"a\x00")
}

// TestNoStrings is of P5.2: strings that none is told by: bytes told in another way, or in none.
func TestNoStrings(t *testing.T) {
	wrong := []string{`\`, `\\\`, `\u`, `\u0`, `\u00`, `\u000`, `\u00\`, `\u000\`, `\u00G0`, `\u000g`, `\u00 0`, `\u0100`, `\u1000`, `\u00e`, `\U0000`, `\x00`, `\0`, `\00`, `\'`, `\/`, `\u-001`, `\u00+1`, `\u00-1`, `\u00:0`, "\\u00/0", "\\u00`0", `\u000@`, `\u00x1`,
		`\u00A0`, `\u00a\u00`, `\u005c`, `\u005C`, `\u0022`, `\u002F`, `\u002f`, `\u20ac`, `\ud800`, `é`, `\ u0000`, `\u 000`}
	for c := range 256 {
		s := byteText(c)
		lower, upper := fmt.Sprintf(`\u00%02x`, c), fmt.Sprintf(`\u00%02X`, c)
		if 32 <= c && c <= 126 {
			wrong = append(wrong, lower, upper)
		} else {
			wrong = append(wrong, s)
		}
		if upper != lower {
			wrong = append(wrong, upper)
		}
		if c != 34 && c != 92 {
			wrong = append(wrong, `\`+s)
		}
	}
	for _, w := range wrong {
		for _, s := range []string{w, "a" + w, `\\` + w, `\"` + w, `\u0000` + w} {
			checkNoValue(t, `"`+s+`"`, `"`+s+`z"`)
			checkRefused(t, `{"`+s+`":1}`, `{"`+s+`":"a"}`, `{"a":1,"`+s+`":true}`, `{"`+s+`z":1}`)
		}
	}
}

// TestSigns is of P5.2: all that can stand in the places of an escape.
func TestSigns(t *testing.T) {
	for c := range 256 {
		for d := range 256 {
			checkParsed(t, `{"a":"\u00`+byteText(c)+byteText(d)+`"}`)
			checkParsed(t, `{"a":"\u`+byteText(c)+byteText(d)+`00"}`)
			checkParsed(t, `{"a":"`+byteText(c)+byteText(d)+`0000"}`)
			checkParsed(t, `{"\`+byteText(c)+byteText(d)+`":1}`)
		}
	}
}

// TestFrames is of P5.2: texts whose signs between and about the members are wrong.
func TestFrames(t *testing.T) {
	checkRefused(t, "", "{", "}", "}{", "{{}}", "{}{}", "{},", ",{}", "{,}", "{:}", "[]", "()", "{}}", "{{}", " {}", "{} ", "{ }", "{}\n", "\n{}", "\ufeff{}", "{}\x00", "null", "true", "1", `""`, `"a":1`, "\x00", "{\x00}",
		`{"a"}`, `{"a":}`, `{"a"1}`, `{"a",1}`, `{:1}`, `{a:1}`, `{'a':1}`, `{1:1}`, `{true:1}`, `{"a"::1}`, `{"a":1:2}`, `{"a"=1}`, `{"a":1;"b":2}`,
		`{"a":1,}`, `{,"a":1}`, `{"a":1,,"b":2}`, `{"a":1"b":2}`, `{"a":1 "b":2}`, `{"a":"b""c":2}`, `{"a":"b"}"`, `{"a":"b"}{`, `{"a":true"b":2}`, `{"a":1}{"b":2}`, `{"a":1},{"b":2}`,
		`{ "a":1}`, `{"a" :1}`, `{"a": 1}`, `{"a":1 }`, `{"a":1 ,"b":2}`, `{"a":1, "b":2}`, "{\"a\":1,\n\"b\":2}", "{\"a\":\t\"b\"}", `{"a":"b" }`, `{"a":true }`, `{"a":1}/**/`, `{"a":1}//`)
	for n := range 60 {
		checkRefused(t, strings.Repeat("{", n+1), strings.Repeat("}", n+1), strings.Repeat("{", n+2)+strings.Repeat("}", n+2), strings.Repeat(`{"a":`, n+2)+"1"+strings.Repeat("}", n+2))
	}
	checkRefused(t, strings.Repeat("{", 16384), strings.Repeat(`{"":`, 4096), strings.Repeat(`\`, 16384), `{"`+strings.Repeat(`\`, 16382), strings.Repeat("\x00", 16384))
}

// TestSpoiltTexts is of P5.2: texts cut off at every place, one byte changed to any, one left out, one more.
func TestSpoiltTexts(t *testing.T) {
	for _, s := range []string{"{}", `{"active":true,"n":-5,"s":"a\""}`, `{"a":10,"":"\u0000\\\u00ff","b":false,"c":-9223372036854775808}`, `{"aa":"","ab":0,"b":9223372036854775807}`} {
		if e := func() api.Errno { _, e := json.Parse(s); return e }(); e != api.OK {
			t.Fatalf("Parse(%q): %d", s, e)
		}
		for i := range s {
			checkRefused(t, s[:i], s[i+1:])
			checkParsed(t, s[:i]+s[i+1:])
			for c := range 256 {
				checkParsed(t, s[:i]+byteText(c)+s[i+1:])
				checkParsed(t, s[:i]+byteText(c)+s[i:])
				checkRefused(t, s+byteText(c), byteText(c)+s)
			}
			for k := i + 1; k < len(s); k++ {
				checkParsed(t, s[:i]+s[k:])
				checkParsed(t, s[:k]+s[i:])
			}
		}
	}
}

// TestShortTexts is of P5.2: all texts of seven signs at most that an object's may be made of, in its place.
func TestShortTexts(t *testing.T) {
	const signs = `",:1-0\`
	var all func(s string, more int)
	all = func(s string, more int) {
		checkParsed(t, `{"`+s+`}`)
		if more == 0 {
			return
		}
		for i := range signs {
			all(s+signs[i:i+1], more-1)
		}
	}
	all("", 6)
}

// notInForm are members that are not in form.
func notInForm() []api.Member {
	out := []api.Member{{Kind: 0, N: 1}, {Kind: 0, N: -1}, {Kind: 0, B: true}, {Kind: 0, N: 1, B: true}, {Kind: 0, Text: "a", N: 1}, {Kind: 0, Text: "a", B: true},
		{Kind: 1, Text: "1"}, {Kind: 1, B: true}, {Kind: 1, Text: " ", B: true}, {Kind: 1, N: 1, Text: "1"}, {Kind: 1, N: 1, B: true}, {Kind: 1, Text: "\x00"},
		{Kind: 2, Text: "t"}, {Kind: 2, N: 1}, {Kind: 2, N: -1}, {Kind: 2, B: true, Text: "true"}, {Kind: 2, B: true, N: 1}, {Kind: 2, Text: "t", N: 1},
		{Kind: 2, N: math.MinInt}, {Kind: 0, N: math.MinInt}, {Kind: 0, N: 1 << 32}, {Kind: 2, N: 1 << 32}}
	for _, kind := range []int{3, -1, 4, 5, 6, 7, 8, 256, 257, 258, 1 << 32, 1<<32 + 1, math.MaxInt, math.MinInt} {
		out = append(out, api.Member{Kind: kind}, api.Member{Kind: kind, Text: "a"}, api.Member{Kind: kind, N: 1}, api.Member{Kind: kind, B: true})
	}
	return out
}

// TestForm is of P5.1: members that are not in form, alone, ahead of others and behind them.
func TestForm(t *testing.T) {
	for _, m := range notInForm() {
		for _, name := range []string{"", "a"} {
			m.Name = name
			checkPrint(t, []api.Member{m}, "", api.ErrForm)
			checkPrint(t, append(numbered(3), m), "", api.ErrForm)
			checkPrint(t, append([]api.Member{m}, numbered(3)...), "", api.ErrForm)
			checkPrint(t, append(numbered(63), m), "", api.ErrForm)
			checkPrint(t, append(append(numbered(2), m), json.Text("text", "b")), "", api.ErrForm)
		}
	}
}

// TestNames is of P5.1 and P5.2: two members of one name at all places, of one kind and of unlike ones; names that are nearly one.
func TestNames(t *testing.T) {
	values := []api.Member{json.Text("", "x"), json.Int("", 1), json.Bool("", true), json.Text("", "")}
	for _, name := range []string{"", "a", "\x00", `"`, strings.Repeat("n", 100)} {
		for _, a := range values {
			for _, b := range values {
				a.Name, b.Name = name, name
				checkPrint(t, []api.Member{a, b}, "", api.ErrForm)
				checkPrint(t, []api.Member{a, json.Int("other", 1), b}, "", api.ErrForm)
				one, _ := json.Print(a)
				two, _ := json.Print(b)
				checkRefused(t, one[:len(one)-1]+","+two[1:], one[:len(one)-1]+`,"other":1,`+two[1:])
			}
		}
	}
	for _, n := range []int{2, 3, 10, 64} {
		for i := range n {
			for k := range i {
				l := numbered(n)
				l[i].Name = l[k].Name
				checkPrint(t, l, "", api.ErrForm)
				text := make([]string, n)
				for j, m := range l {
					text[j] = fmt.Sprintf(`"%s":%d`, m.Name, m.N)
				}
				checkRefused(t, "{"+strings.Join(text, ",")+"}")
			}
		}
	}
	checkBoth(t, `{"a":1,"A":1,"a ":1," a":1,"aa":1,"":1,"\u0000":1,"a\u0000":1,"\\u0000":1}`,
		json.Int("a", 1), json.Int("A", 1), json.Int("a ", 1), json.Int(" a", 1), json.Int("aa", 1), json.Int("", 1), json.Int("\x00", 1), json.Int("a\x00", 1), json.Int(`\u0000`, 1))
}

// TestCounts is of P5.1 and P5.2: 64 members, 65 and more.
func TestCounts(t *testing.T) {
	for n := range 65 {
		l := numbered(n)
		var text []string
		for _, m := range l {
			text = append(text, fmt.Sprintf(`"%s":%d`, m.Name, m.N))
		}
		checkBoth(t, "{"+strings.Join(text, ",")+"}", l...)
	}
	for _, n := range []int{65, 66, 100, 128, 1000} {
		var text []string
		for _, m := range numbered(n) {
			text = append(text, fmt.Sprintf(`"%s":%d`, m.Name, m.N))
		}
		checkPrint(t, numbered(n), "", api.ErrLong)
		checkRefused(t, "{"+strings.Join(text, ",")+"}")
	}
	checkPrint(t, make([]api.Member, 65), "", api.ErrLong)
	checkPrint(t, make([]api.Member, 1<<20), "", api.ErrLong)
}

// TestSizes is of P5.1 and P5.2: texts of about 16384 bytes, by names, texts, and many members, of signs told by one, two and six.
func TestSizes(t *testing.T) {
	frame := len(`{"":""}`)
	for n := 16384 - 20; n < 16384+20; n++ {
		s := strings.Repeat("a", n-frame)
		text, l := `{"":"`+s+`"}`, []api.Member{json.Text("", s)}
		named, m := `{"`+s+`":""}`, []api.Member{json.Text(s, "")}
		if n <= 16384 {
			checkBoth(t, text, l...)
			checkBoth(t, named, m...)
			continue
		}
		checkPrint(t, l, "", api.ErrLong)
		checkParse(t, text, nil, api.ErrLong)
		checkPrint(t, m, "", api.ErrLong)
		checkParse(t, named, nil, api.ErrLong)
		checkParse(t, strings.Repeat("{", n), nil, api.ErrLong)
	}
	for _, c := range []string{"a", `"`, `\`, "\x00", "\xff", "\x7f"} {
		wide := len(told(c)) - 2
		for rest := range wide {
			for over := range 2 {
				bytes := (16384 - frame - rest) / wide
				s := strings.Repeat(c, bytes) + strings.Repeat("b", 16384-frame-bytes*wide+over)
				checkPrinted(t, json.Text("", s))
				checkPrinted(t, json.Text(s, ""))
				checkPrinted(t, json.Text(s[:len(s)/2], s[len(s)/2:]))
				checkParsed(t, `{"":`+told(s)+`}`)
				checkParsed(t, `{`+told(s)+`:""}`)
			}
		}
	}
	for _, last := range []api.Member{json.Text("z", ""), json.Int("z", math.MinInt), json.Int("z", 0), json.Bool("z", true), json.Bool("z", false), json.Text("z", "\x00\\a")} {
		l := append(numbered(63), last)
		short, _ := json.Print(l...)
		for more := 16384 - len(short) - 3; more <= 16384-len(short)+3; more++ {
			l[0].Name = "m0" + strings.Repeat("n", more)
			want, wantErr := printed(l)
			if (more > 16384-len(short)) != (wantErr == api.ErrLong) {
				t.Fatalf("%d more: %d", more, wantErr)
			}
			checkPrint(t, l, want, wantErr)
			if wantErr == api.OK {
				checkParse(t, want, l, api.OK)
			}
		}
	}
	l := numbered(64)
	for i := range l {
		l[i].Name = fmt.Sprintf("%0245d", i)
	}
	short, _ := json.Print(l...)
	l[63].Name += strings.Repeat("w", 16384-len(short))
	text, _ := printed(l)
	checkBoth(t, text, l...)
	checkParse(t, text[:len(text)-1]+"0}", nil, api.ErrLong)
	l[63].N *= 10
	checkPrint(t, l, "", api.ErrLong)
}

// TestFirstErrors is of P5.1 and P5.2: which error is told where several apply.
func TestFirstErrors(t *testing.T) {
	long := strings.Repeat("a", 20000)
	wrong := api.Member{Name: "m1", Kind: 3}
	twice := []api.Member{json.Int("a", 1), json.Int("a", 2)}
	checkPrint(t, append(numbered(64), wrong), "", api.ErrLong)
	checkPrint(t, append(numbered(64), numbered(1)...), "", api.ErrLong)
	checkPrint(t, append(numbered(64), json.Text("b", long)), "", api.ErrLong)
	checkPrint(t, slices.Repeat([]api.Member{wrong}, 65), "", api.ErrLong)
	checkPrint(t, []api.Member{json.Text("b", long), wrong}, "", api.ErrForm)
	checkPrint(t, []api.Member{wrong, json.Text("b", long)}, "", api.ErrForm)
	checkPrint(t, []api.Member{{Name: "b", Kind: 0, Text: long, N: 1}}, "", api.ErrForm)
	checkPrint(t, []api.Member{{Name: "b", Kind: 1, Text: long}}, "", api.ErrForm)
	checkPrint(t, []api.Member{{Name: "b", Kind: 9, Text: long}}, "", api.ErrForm)
	checkPrint(t, append(twice, json.Text("b", long)), "", api.ErrForm)
	checkPrint(t, append([]api.Member{json.Text("b", long)}, twice...), "", api.ErrForm)
	checkPrint(t, []api.Member{json.Text(long, "b"), json.Int("a", 1), json.Int(long, 3)}, "", api.ErrForm)
	checkPrint(t, append([]api.Member{wrong}, twice...), "", api.ErrForm)
	checkPrint(t, []api.Member{json.Text("b", long), json.Int("a", 1)}, "", api.ErrLong)
	checkPrint(t, []api.Member{json.Int("a", 1), json.Text("b", long)}, "", api.ErrLong)
	checkParse(t, `{"a":1,"a":2,"b":"`+long+`"}`, nil, api.ErrLong)
	checkParse(t, long, nil, api.ErrLong)
	checkParse(t, `{"a":"`+long+`"}`, nil, api.ErrLong)
	checkParse(t, strings.Repeat(" ", 16385), nil, api.ErrLong)
	checkParse(t, strings.Repeat(" ", 16384), nil, api.ErrForm)
	checkParse(t, long[:16384], nil, api.ErrForm)
}

// TestGet is of P5.3: names that no member has, one and several, of all kinds, in form or not.
func TestGet(t *testing.T) {
	l := []api.Member{json.Text("a", "1"), json.Int("b", 2), json.Bool("c", true), json.Text("", "none"), json.Int("a", 3), json.Bool("b", false), {Name: "d", Kind: 9, Text: "x", N: -1, B: true}, json.Text("é\x00", ""), json.Int("", 4)}
	firsts := map[string]int{"a": 0, "b": 1, "c": 2, "": 3, "d": 6, "é\x00": 7}
	for name, at := range firsts {
		for n := range len(l) + 1 {
			want, has := api.Member{}, at < n
			if has {
				want = l[at]
			}
			if got, ok := json.Get(l[:n], name); got != want || ok != has {
				t.Errorf("Get of %q among %d: %s, %t", name, n, show(got), ok)
			}
		}
	}
	for _, name := range []string{"A", "aa", " ", "a ", "x", "1", "\x00", "é", strings.Repeat("a", 1<<16)} {
		if got, ok := json.Get(l, name); got != (api.Member{}) || ok {
			t.Errorf("Get of %.40q: %s, %t", name, show(got), ok)
		}
	}
	for _, none := range [][]api.Member{nil, {}} {
		if got, ok := json.Get(none, ""); got != (api.Member{}) || ok {
			t.Errorf("Get among none: %s, %t", show(got), ok)
		}
	}
	if got, ok := json.Get([]api.Member{{}}, ""); got != (api.Member{}) || !ok {
		t.Errorf("Get of a zero member: %s, %t", show(got), ok)
	}
	if got, ok := json.Get(numbered(100000), "m99999"); got != json.Int("m99999", 99999) || !ok {
		t.Errorf("Get among many: %s, %t", show(got), ok)
	}
}

// TestThereAndBack is of P5.4: what is printed is parsed to what it was, and what is parsed is printed as it was.
func TestThereAndBack(t *testing.T) {
	chance := rand.New(rand.NewSource(5))
	for n := range 65 {
		for wide := range 40 {
			l := members(chance, n, wide)
			s, e := json.Print(l...)
			if e != api.OK {
				t.Fatalf("Print of %d members: %d", n, e)
			}
			checkPrinted(t, l...)
			checkParse(t, s, l, api.OK)
			checkParsed(t, s)
		}
	}
	right := 0
	for range 200000 {
		s := spoilt(chance, `{"a":1,"b":"\u0000","c":true}`)
		checkParsed(t, s)
		l, e := json.Parse(s)
		if e == api.OK {
			right++
			checkPrint(t, l, s, api.OK)
		}
	}
	if right < 2000 {
		t.Errorf("only %d texts were parsed", right)
	}
	for range 2000 {
		l := members(chance, 1+chance.Intn(8), 4)
		at := &l[chance.Intn(len(l))]
		switch chance.Intn(5) {
		case 0:
			at.Kind = chance.Intn(6) - 1
		case 1:
			at.Text = chancy(chance, 2)
		case 2:
			at.N = chancyInt(chance)
		case 3:
			at.B = !at.B
		case 4:
			at.Name = l[0].Name
		}
		checkPrinted(t, l...)
	}
}

// spoilt is s with one to three bytes of it changed, left out or told anew.
func spoilt(chance *rand.Rand, s string) string {
	for range 1 + chance.Intn(3) {
		if s == "" {
			return s
		}
		i := chance.Intn(len(s))
		switch chance.Intn(4) {
		case 0:
			s = s[:i] + s[i+1:]
		case 1:
			s = s[:i] + chancy(chance, 1) + s[i:]
		case 2:
			s = s[:i] + chancy(chance, 1) + s[i+1:]
		case 3:
			k := chance.Intn(len(s))
			s = s[:i] + s[k:k+1] + s[i+1:]
		}
	}
	return s
}

// shared tells whether two texts share memory.
func shared(a, b string) bool {
	if a == "" || b == "" {
		return false
	}
	one, two := uintptr(unsafe.Pointer(unsafe.StringData(a))), uintptr(unsafe.Pointer(unsafe.StringData(b)))
	return one < two+uintptr(len(b)) && two < one+uintptr(len(a))
}

// checkApart asks whether no two of the texts share memory.
func checkApart(t *testing.T, what string, texts ...string) {
	t.Helper()
	for i, a := range texts {
		for _, b := range texts[:i] {
			if shared(a, b) {
				t.Errorf("%s: %.40q and %.40q share memory", what, a, b)
			}
		}
	}
}

// spread are the texts of members.
func spread(l ...api.Member) []string {
	var out []string
	for _, m := range l {
		out = append(out, m.Name, m.Text)
	}
	return out
}

// TestNewMemory is of P5.5: answers share no memory with what was handed in, nor with other answers, nor within themselves.
func TestNewMemory(t *testing.T) {
	for _, name := range []string{"a", "ab", strings.Repeat("n", 100)} {
		for _, s := range []string{"b", "\x00", strings.Repeat("s", 100)} {
			checkApart(t, "Text", append(spread(json.Text(name, s), json.Text(name, s)), name, s)...)
		}
		checkApart(t, "Text of one", append(spread(json.Text(name, name), json.Text(name, name)), name)...)
		checkApart(t, "Int", append(spread(json.Int(name, 1), json.Int(name, 1)), name)...)
		checkApart(t, "Bool", append(spread(json.Bool(name, true), json.Bool(name, false)), name)...)
	}
	wrong := api.Member{Name: "wrong", Kind: 7, Text: "text", N: 1, B: true}
	for _, l := range [][]api.Member{{}, {json.Int("a", 1)}, {json.Text("b", "c"), json.Bool("d", true)}, {json.Text("abc", "def"), json.Text("", strings.Repeat("g", 200)), wrong}} {
		one, _ := json.Print(l...)
		two, _ := json.Print(l...)
		checkApart(t, "Print", append(spread(l...), one, two)...)
		for _, m := range l {
			three, _ := json.Get(l, m.Name)
			four, _ := json.Get(l, m.Name)
			checkApart(t, "Get", append(append(spread(l...), spread(three)...), spread(four)...)...)
		}
	}
	for _, s := range []string{"{}", `{"a":1}`, `{"":"b"}`, `{"a":"b","c":"d"}`, `{"abc":"abc","abcd":"\\","e":true,"\u0000":"\u0000"}`, `{"name":"` + strings.Repeat("value", 50) + `"}`} {
		one, _ := json.Parse(s)
		two, _ := json.Parse(s)
		was := slices.Clone(two)
		checkApart(t, "Parse", append(append(spread(one...), spread(two...)...), s)...)
		clear(one[:cap(one)])
		three, e := json.Parse(s)
		if !slices.Equal(two, was) || !slices.Equal(three, was) || e != api.OK {
			t.Errorf("Parse(%q): lists share memory", s)
		}
	}
}

// TestNothingChanged is of P5.5: members and bytes that are handed in stay, and those behind their end; asked again, the answer is the same.
func TestNothingChanged(t *testing.T) {
	chance := rand.New(rand.NewSource(6))
	room := members(chance, 80, 6)
	room[40], room[41].Name = notInForm()[1], room[30].Name
	was := slices.Clone(room)
	for n := range 79 {
		one, e := json.Print(room[:n]...)
		checkPrint(t, room[:n], one, e)
		checkPrinted(t, room[:n]...)
		json.Get(room[:n], room[n].Name)
		json.Get(room[:n+1], room[n/2].Name)
		if !slices.Equal(room, was) {
			t.Fatalf("%d members were changed", n)
		}
	}
	for range 300 {
		memory := []byte(spoilt(chance, `{"a":1,"b":"\u0000","c":true}`))
		kept := bytes.Clone(memory)
		for n := 1; n <= len(memory); n++ {
			s := unsafe.String(&memory[0], n)
			l, e := json.Parse(s)
			checkParse(t, s, l, e)
			m := json.Text(s, s)
			json.Int(s, n)
			json.Bool(s, true)
			json.Get([]api.Member{{Name: s, Text: s}}, s)
			json.Print(api.Member{Name: s, Text: s})
			if !bytes.Equal(memory, kept) || m.Name != s || m.Text != s {
				t.Fatalf("%q was changed to %q", kept, memory)
			}
		}
	}
}

// TestNothingKept is of P5.5: what is written over behind a call doesn't tell in the next, nor in what was answered.
func TestNothingKept(t *testing.T) {
	memory := []byte("ab")
	s := unsafe.String(&memory[0], 2)
	l := []api.Member{json.Text("a", s), json.Int(s, 2), json.Bool("c", true)}
	text, _ := json.Print(l...)
	m, _ := json.Get(l, "a")
	memory[0] = 'x'
	l[0], l[1], l[2] = json.Text("d", "3"), json.Int("a", 4), json.Bool("e", false)
	if text != `{"a":"ab","ab":2,"c":true}` || m != json.Text("a", "ab") {
		t.Errorf("answers change: %q, %s", text, show(m))
	}
	checkPrint(t, l, `{"d":"3","a":4,"e":false}`, api.OK)
	if m, ok := json.Get(l, "a"); m != json.Int("a", 4) || !ok {
		t.Errorf("Get of a: %s, %t", show(m), ok)
	}
	checkParse(t, `{"a":1}`, []api.Member{json.Int("a", 1)}, api.OK)
	checkParse(t, `{"a":}`, nil, api.ErrForm)
	checkParse(t, `{"a":2}`, []api.Member{json.Int("a", 2)}, api.OK)
}

// TestEnds is of P1: long texts, and members that are far longer than an object's text, are answered.
func TestEnds(t *testing.T) {
	chance := rand.New(rand.NewSource(7))
	checkParse(t, chancy(chance, 1<<22), nil, api.ErrLong)
	checkParse(t, strings.Repeat("{", 1<<24), nil, api.ErrLong)
	zeros := strings.Repeat("\x00", 1<<24)
	l := make([]api.Member, 64)
	for i := range l {
		l[i] = api.Member{Name: zeros[i:], Text: zeros}
	}
	checkPrint(t, l, "", api.ErrLong)
	l[63].Name = zeros
	checkPrint(t, l, "", api.ErrForm)
	if m, ok := json.Get(slices.Repeat([]api.Member{{Name: zeros, Text: zeros}}, 1<<16), zeros); !ok || m.Name != zeros || m.Text != zeros {
		t.Errorf("Get of a long text: %d bytes, %d, %t", len(m.Name), len(m.Text), ok)
	}
	for range 20000 {
		json.Parse(chancy(chance, chance.Intn(60)))
		json.Parse("{\"" + chancy(chance, chance.Intn(60)))
	}
}
