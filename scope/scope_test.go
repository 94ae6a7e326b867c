package scope_test

import (
	"bytes"
	"fmt"
	"math/rand"
	"regexp"
	"slices"
	"strings"
	"testing"
	"unsafe"

	"signet/api"
	"signet/scope"
)

// form tells by other means whether a text is a word.
var form = regexp.MustCompile(`\A[!#-\[\]-~]{1,64}\z`)

// byteText is a byte as a text.
func byteText(c int) string { return string([]byte{byte(c)}) }

// set is the set that the lists stand for, by other means.
func set(lists ...[]string) []string {
	l := slices.DeleteFunc(slices.Concat(lists...), func(s string) bool { return !form.MatchString(s) })
	slices.SortFunc(l, func(a, b string) int { return bytes.Compare([]byte(a), []byte(b)) })
	return slices.Compact(l)
}

// printed is the text of the set that l stands for, by other means.
func printed(l []string) string {
	var out bytes.Buffer
	for _, w := range set(l) {
		fmt.Fprintf(&out, " %s", w)
	}
	return strings.TrimPrefix(out.String(), " ")
}

// parsed is the set of s, by other means.
func parsed(s string) ([]string, api.Errno) {
	if len(s) > 16384 {
		return nil, api.ErrLong
	}
	if s == "" {
		return nil, api.OK
	}
	l := slices.Collect(strings.SplitSeq(s, " "))
	if slices.ContainsFunc(l, func(w string) bool { return !form.MatchString(w) }) {
		return nil, api.ErrForm
	}
	if l = set(l); len(l) > 32 {
		return nil, api.ErrLong
	}
	return l, api.OK
}

// within, by other means, is whether the set of b has as many words as those of a and b together.
func within(a, b []string) bool { return len(set(a, b)) == len(set(b)) }

// meet is the set of the words that both have, by other means.
func meet(a, b []string) []string {
	other := set(b)
	return slices.DeleteFunc(set(a), func(w string) bool { return !slices.Contains(other, w) })
}

// numbered are n unlike words, rising, of three signs each.
func numbered(n int) []string {
	out := make([]string, n)
	for i := range out {
		out[i] = fmt.Sprintf("%03d", i)
	}
	return out
}

// wide are n unlike words of 64 signs each.
func wide(n int) []string {
	out := make([]string, n)
	for i := range out {
		out[i] = fmt.Sprintf("%064d", i)
	}
	return out
}

// none are texts that are no words.
func none() []string {
	return []string{"", " ", "a ", " a", "a b", "a  b", `"`, `\`, `a"b`, `\\`, "\x00", "a\x00", "\x7f", "\x80", "\xff", "a\n", "\t", "é", "a\xc3", "\u00a0",
		strings.Repeat("a", 65), strings.Repeat("a", 128), strings.Repeat("a", 1000), strings.Repeat("a", 64) + " ", strings.Repeat("a", 63) + `"`}
}

// chancy is a list of n texts by chance, of words and such as are none.
func chancy(chance *rand.Rand, n int) []string {
	out := make([]string, n)
	for i := range out {
		out[i] = byteText('a' + chance.Intn(n+1)%26)
		switch chance.Intn(6) {
		case 0:
			out[i] += byteText(chance.Intn(256))
		case 1:
			out[i] = none()[chance.Intn(len(none()))]
		case 2:
			out[i] = strings.Repeat(out[i], 62+chance.Intn(5))
		}
	}
	return out
}

func checkWord(t *testing.T, s string, want bool) {
	t.Helper()
	if got := scope.IsWord(s); got != want {
		t.Errorf("IsWord(%.80q), %d bytes: %t", s, len(s), got)
	}
}

func checkParse(t *testing.T, s string, want []string, wantErr api.Errno) {
	t.Helper()
	if got, e := scope.Parse(s); !slices.Equal(got, want) || e != wantErr {
		t.Errorf("Parse(%.80q), %d bytes: %d words, %.80q, %d, not %d, %.80q, %d", s, len(s), len(got), got, e, len(want), want, wantErr)
	}
}

// checkParsed holds what Parse answers against the same by other means.
func checkParsed(t *testing.T, s string) {
	t.Helper()
	want, wantErr := parsed(s)
	checkParse(t, s, want, wantErr)
}

// checkSet asks whether the list stands for that set: gathered, printed, and as one of several lists.
func checkSet(t *testing.T, l, want []string) {
	t.Helper()
	for i, got := range [][]string{scope.Set(l...), scope.Both(l), scope.Both(nil, l, l), scope.Meet(l, l)} {
		if !slices.Equal(got, want) {
			t.Errorf("the set of %.80q, %d texts, way %d: %.80q, not %.80q", l, len(l), i, got, want)
		}
	}
	if got, text := scope.Print(l...), strings.Join(want, " "); got != text {
		t.Errorf("Print of %.80q, %d texts: %.80q, not %.80q", l, len(l), got, text)
	}
}

// checkTwo holds what is answered of two lists against that set in common, and against other means.
func checkTwo(t *testing.T, a, b, common []string) {
	t.Helper()
	for _, got := range [][]string{scope.Meet(a, b), scope.Meet(b, a)} {
		if !slices.Equal(got, common) {
			t.Errorf("Meet of %.60q and %.60q: %.60q, not %.60q", a, b, got, common)
		}
	}
	if got, want := scope.Within(a, b), within(a, b); got != want {
		t.Errorf("Within(%.60q, %.60q): %t", a, b, got)
	}
	if got, want := scope.Within(b, a), within(b, a); got != want {
		t.Errorf("Within(%.60q, %.60q): %t", b, a, got)
	}
	for _, got := range [][]string{scope.Both(a, b), scope.Both(b, a), scope.Both(b, a, nil, b)} {
		if want := set(a, b); !slices.Equal(got, want) {
			t.Errorf("Both of %.60q and %.60q: %.60q, not %.60q", a, b, got, want)
		}
	}
}

// TestExamples is of P6.1, P6.2 and P6.3: the chapter's examples.
func TestExamples(t *testing.T) {
	checkParse(t, "b a b", []string{"a", "b"}, api.OK)
	checkParse(t, "a  b", nil, api.ErrForm)
	checkParse(t, " ", nil, api.ErrForm)
	checkParse(t, "a\"b", nil, api.ErrForm)
	if s := scope.Print("b", "", "a"); s != "a b" {
		t.Errorf("Print: %q", s)
	}
	if !scope.Within([]string{"a"}, []string{"a", "b"}) || scope.Within([]string{"a", "b"}, []string{"a"}) {
		t.Error("Within of a and a b")
	}
	checkTwo(t, []string{"a", "b"}, []string{"b", "c"}, []string{"b"})
	if l := scope.Both([]string{"a", "c"}, []string{"b"}); !slices.Equal(l, []string{"a", "b", "c"}) {
		t.Errorf("Both: %q", l)
	}
}

// TestBytes is of P6.1 and P6.2: each byte as a word of its own and within one, at all places.
func TestBytes(t *testing.T) {
	right := 0
	for c := range 256 {
		s, sign := byteText(c), c == 33 || 35 <= c && c <= 91 || 93 <= c && c <= 126
		if sign {
			right++
		}
		for _, word := range []string{s, s + s, "a" + s, s + "a", "a" + s + "b", strings.Repeat("a", 63) + s, s + strings.Repeat("a", 63), strings.Repeat(s, 64)} {
			checkWord(t, word, sign)
			var alone []string
			if sign {
				alone = []string{word}
			}
			checkSet(t, []string{word}, alone)
			checkSet(t, []string{"", word, "", word}, alone)
			if c == 32 {
				continue // no byte of a piece
			}
			wantErr := api.ErrForm
			if sign {
				wantErr = api.OK
			}
			checkParse(t, word, alone, wantErr)
			checkParsed(t, word+" z")
			checkParsed(t, "z "+word)
			checkParsed(t, "z "+word+" y "+word)
		}
		for i := range 64 {
			checkWord(t, strings.Repeat("a", i)+s+strings.Repeat("b", 63-i), sign)
		}
		for d := range 256 {
			checkWord(t, s+byteText(d), form.MatchString(s) && form.MatchString(byteText(d)))
			checkParsed(t, s+byteText(d))
			checkParsed(t, "a"+s+byteText(d)+"a")
		}
	}
	if right != 92 {
		t.Errorf("%d bytes are words", right)
	}
	for c, want := range map[int]bool{32: false, 33: true, 34: false, 35: true, 91: true, 92: false, 93: true, 126: true, 127: false} {
		checkWord(t, byteText(c), want)
		checkWord(t, "x"+byteText(c)+"y", want)
	}
}

// TestSizes is of P6.1 and P6.2: texts of no byte, of 1, of 64, of 65, and many more, as words.
func TestSizes(t *testing.T) {
	checkWord(t, "", false)
	checkWord(t, "a", true)
	checkWord(t, strings.Repeat("a", 64), true)
	checkWord(t, strings.Repeat("a", 65), false)
	for n := range 700 {
		s, is := strings.Repeat("~", n), 1 <= n && n <= 64
		checkWord(t, s, is)
		if !is {
			checkSet(t, []string{s, "b", s}, []string{"b"})
			if n > 0 {
				checkParse(t, s, nil, api.ErrForm)
			}
			checkParse(t, "b "+s, nil, api.ErrForm)
			checkParse(t, s+" b", nil, api.ErrForm)
			continue
		}
		checkSet(t, []string{s, "b", s}, []string{"b", s})
		checkParse(t, s, []string{s}, api.OK)
		checkParse(t, s+" b "+s, []string{"b", s}, api.OK)
	}
	for _, n := range []int{256 + 1, 256 + 64, 65536 + 1, 1 << 24} {
		checkWord(t, strings.Repeat("a", n), false)
	}
	for _, s := range none() {
		checkWord(t, s, false)
	}
}

// TestLists is of P6.1: lists that are nil, empty, without words, of one word many times, in any order, of many words.
func TestLists(t *testing.T) {
	checkSet(t, nil, nil)
	checkSet(t, []string{}, nil)
	checkSet(t, none(), nil)
	checkSet(t, []string{"", "", ""}, nil)
	checkSet(t, []string{"a"}, []string{"a"})
	checkSet(t, slices.Repeat([]string{"a"}, 1000), []string{"a"})
	checkSet(t, []string{"a", "b", "a", "b", "a"}, []string{"a", "b"})
	checkSet(t, []string{"a b", "c"}, []string{"c"})
	checkSet(t, append(append(none(), "b", "a"), none()...), []string{"a", "b"})
	checkSet(t, []string{"b", "B", "a", "A", "aa", "a!", "1", "10", "2", "~", "!", "_", "[", "]", "#", "AA", "Ab"},
		[]string{"!", "#", "1", "10", "2", "A", "AA", "Ab", "B", "[", "]", "_", "a", "a!", "aa", "b", "~"})
	chance := rand.New(rand.NewSource(1))
	for _, n := range []int{1, 2, 31, 32, 33, 64, 65, 300, 999} {
		rising := numbered(n)
		checkSet(t, rising, rising)
		falling := slices.Clone(rising)
		slices.Reverse(falling)
		checkSet(t, falling, rising)
		checkSet(t, append(falling, rising...), rising)
		mixed := append(slices.Concat(rising, none(), rising[n/2:]), none()...)
		chance.Shuffle(len(mixed), func(i, k int) { mixed[i], mixed[k] = mixed[k], mixed[i] })
		checkSet(t, mixed, rising)
	}
	checkSet(t, wide(600), wide(600)) // its text has more than MaxText bytes
	var signs []string
	for c := range 256 {
		signs = append(signs, byteText(255-c))
	}
	if l := scope.Set(signs...); len(l) != 92 || l[0] != "!" || l[91] != "~" || !slices.IsSorted(l) {
		t.Errorf("the set of all bytes: %q", l)
	}
	for n := range 60 {
		for range 40 {
			l := chancy(chance, n)
			checkSet(t, l, set(l))
			if got, want := scope.Print(l...), printed(l); got != want {
				t.Errorf("Print of %.60q: %.60q, not %.60q", l, got, want)
			}
		}
	}
}

// TestOrders is of P6.1, P6.2 and P6.3: each order of five texts is the same to all calls.
func TestOrders(t *testing.T) {
	want, l := []string{"B", "a", "aa", "b"}, []string{"b", "a", "aa", "B", "a"}
	var all func(k int)
	all = func(k int) {
		if k == len(l) {
			checkSet(t, l, want)
			checkTwo(t, l, []string{"b", "c", "B"}, []string{"B", "b"})
			checkParse(t, strings.Join(l, " "), want, api.OK)
			return
		}
		for i := k; i < len(l); i++ {
			l[k], l[i] = l[i], l[k]
			all(k + 1)
			l[k], l[i] = l[i], l[k]
		}
	}
	all(0)
}

// TestBlanks is of P6.2: texts with no blank, one, blanks ahead, behind, beside one another, alone; and other signs that part nothing.
func TestBlanks(t *testing.T) {
	checkParse(t, "", nil, api.OK)
	checkParse(t, "a", []string{"a"}, api.OK)
	checkParse(t, "ab", []string{"ab"}, api.OK)
	checkParse(t, "a b", []string{"a", "b"}, api.OK)
	checkParse(t, "b a", []string{"a", "b"}, api.OK)
	checkParse(t, "a a", []string{"a"}, api.OK)
	checkParse(t, "a,b", []string{"a,b"}, api.OK)
	checkParse(t, "a+b a%20b a;b", []string{"a%20b", "a+b", "a;b"}, api.OK)
	for _, s := range []string{" a", "a ", " a ", "  ", "   ", " a b", "a b ", "  a", "a  ", "a  b", "a   b", "a b  c", "a  b c", "a b  ",
		"a\tb", "a\nb", "a\rb", "a\x00b", "a\vb", "a\fb", "a\u00a0b", "a\u2003b", "a b\n", "\na b", "\t", "\n", "\x00", "a \t b"} {
		checkParse(t, s, nil, api.ErrForm)
	}
	for n := 1; n < 100; n++ {
		checkParse(t, strings.Repeat(" ", n), nil, api.ErrForm)
		checkParse(t, strings.Repeat("a ", n), nil, api.ErrForm)
		checkParse(t, strings.Repeat(" a", n), nil, api.ErrForm)
		checkParse(t, strings.Repeat("a ", n)+"a", []string{"a"}, api.OK)
		checkParse(t, strings.Repeat("a ", n)+"b", []string{"a", "b"}, api.OK)
	}
}

// TestShortTexts is of P6.2: all texts of eight signs at most that mean something.
func TestShortTexts(t *testing.T) {
	const signs = "ab \"\\"
	var all func(s string)
	all = func(s string) {
		checkParsed(t, s)
		if len(s) == 8 {
			return
		}
		for i := range signs {
			all(s + signs[i:i+1])
		}
	}
	all("")
}

// TestSpoiltTexts is of P6.2: texts cut off at every place, one byte changed to any, one left out, one more.
func TestSpoiltTexts(t *testing.T) {
	for _, s := range []string{"read", "b a b", "openid profile:read !#[]~ x", strings.Join(wide(3), " ")} {
		checkParse(t, s, set(strings.Fields(s)), api.OK)
		for i := range len(s) + 1 {
			checkParsed(t, s[:i])
			checkParsed(t, s[i:])
			for c := range 256 {
				checkParsed(t, s[:i]+byteText(c)+s[i:])
				if i < len(s) {
					checkParsed(t, s[:i]+byteText(c)+s[i+1:])
				}
			}
			if i < len(s) {
				checkParsed(t, s[:i]+s[i+1:])
			}
		}
	}
}

// filled is a text of n bytes: the words, and behind them x again and again, and yy if x alone doesn't fill it.
func filled(words []string, n int) string {
	s := strings.Join(words, " ")
	if (n-len(s))%2 == 1 {
		s += " yy"
	}
	return s + strings.Repeat(" x", (n-len(s))/2)
}

// TestTextSizes is of P6.2: texts of about 16384 bytes, in form and not, of few words and of many.
func TestTextSizes(t *testing.T) {
	for n := 16384 - 20; n <= 16384+20; n++ {
		for _, words := range [][]string{{"a"}, {strings.Repeat("a", 64)}, numbered(30), wide(30), slices.Repeat(wide(30), 8)} {
			s, last := filled(words, n), n-1
			if len(s) != n {
				t.Fatalf("%d bytes, not %d", len(s), n)
			}
			if n > 16384 {
				checkParse(t, s, nil, api.ErrLong)
				continue
			}
			checkParse(t, s, set(strings.Fields(s)), api.OK)
			checkParse(t, s[:last]+" ", nil, api.ErrForm)
			checkParse(t, s[:last]+"\x00", nil, api.ErrForm)
			checkParse(t, " "+s[1:], nil, api.ErrForm)
		}
		wantErr := api.ErrForm
		if n > 16384 {
			wantErr = api.ErrLong
		}
		for _, c := range []string{" ", "a", "\x00", "\xff", "\"", "a ", " a"} {
			checkParse(t, strings.Repeat(c, n)[:n-n%len(c)]+strings.Repeat(" ", n%len(c)), nil, wantErr)
		}
		checkParse(t, filled(numbered(33), n), nil, api.ErrLong)
	}
	checkParse(t, strings.Repeat("a ", 8191)+"bb", []string{"a", "bb"}, api.OK)
	checkParse(t, strings.Repeat("a ", 8191)+"bbb", nil, api.ErrLong)
	checkParse(t, strings.Repeat("a ", 8191)+"b", []string{"a", "b"}, api.OK)
}

// TestCounts is of P6.2: 32 unlike words, 33 and more, and such as are alike among them.
func TestCounts(t *testing.T) {
	for _, words := range [][]string{numbered(240), wide(240)} {
		for n := 1; n <= len(words); n++ {
			l := words[:n]
			s := strings.Join(l, " ")
			if n > 32 {
				checkParse(t, s, nil, api.ErrLong)
				checkParse(t, s+" "+l[0], nil, api.ErrLong)
				continue
			}
			checkParse(t, s, l, api.OK)
			checkParse(t, s+" "+s, l, api.OK)
			for i := range n {
				checkParse(t, s+" "+l[i], l, api.OK)
				checkParse(t, l[i]+" "+s, l, api.OK)
			}
		}
	}
	l := numbered(33)
	for i := range l {
		for k := range i {
			alike := slices.Clone(l)
			alike[i] = l[k]
			checkParse(t, strings.Join(alike, " "), slices.Delete(slices.Clone(l), i, i+1), api.OK)
		}
	}
	slices.Reverse(l)
	checkParse(t, strings.Join(l, " "), nil, api.ErrLong)
	checkParse(t, strings.Join(slices.Repeat(numbered(32), 100), " "), numbered(32), api.OK)
	checkParse(t, strings.Join(slices.Repeat(numbered(33), 100), " "), nil, api.ErrLong)
	checkParse(t, strings.Join(append(slices.Repeat(numbered(32), 100), "a"), " "), nil, api.ErrLong)
	checkParse(t, strings.Join(numbered(999), " "), nil, api.ErrLong)
}

// TestFirstErrors is of P6.2: which error is told where several apply.
func TestFirstErrors(t *testing.T) {
	many, ahead := strings.Join(numbered(33), " "), strings.Join(numbered(20), " ")
	checkParse(t, many, nil, api.ErrLong)
	for _, wrong := range none() {
		checkParse(t, strings.Repeat("a ", 8193)+wrong, nil, api.ErrLong)
		checkParse(t, wrong+strings.Repeat(" a", 8193), nil, api.ErrLong)
		if strings.Contains(wrong, " ") {
			continue // several pieces
		}
		checkParse(t, many+" "+wrong, nil, api.ErrForm)
		checkParse(t, wrong+" "+many, nil, api.ErrForm)
		checkParse(t, many+" "+wrong+" a", nil, api.ErrForm)
		checkParse(t, ahead+" "+wrong+" "+many, nil, api.ErrForm)
		checkParse(t, many+" "+many+" "+wrong+" "+many, nil, api.ErrForm)
	}
	checkParse(t, many+"  ", nil, api.ErrForm)
	checkParse(t, strings.Join(numbered(33), "  "), nil, api.ErrForm)
	checkParse(t, many+strings.Repeat(" ", 16384-len(many)), nil, api.ErrForm)
	checkParse(t, many+strings.Repeat(" ", 16385-len(many)), nil, api.ErrLong)
	checkParse(t, many+" "+strings.Repeat("a", 16384-len(many)-1), nil, api.ErrForm)
	checkParse(t, many+" "+strings.Repeat("a", 16384-len(many)), nil, api.ErrLong)
}

// TestTwo is of P6.3: lists that have nothing, something and all in common, with repetitions, in any order, with what is no word.
func TestTwo(t *testing.T) {
	checkTwo(t, nil, nil, nil)
	checkTwo(t, nil, []string{}, nil)
	checkTwo(t, nil, []string{"a"}, nil)
	checkTwo(t, none(), none(), nil)
	checkTwo(t, none(), []string{"a"}, nil)
	checkTwo(t, []string{"a", "b"}, []string{"c", "d"}, nil)
	checkTwo(t, []string{"b", "a", "b"}, []string{"a", "a", "b", "a"}, []string{"a", "b"})
	checkTwo(t, []string{"c", "a", "b"}, []string{"d", "b", "", "c"}, []string{"b", "c"})
	checkTwo(t, []string{"a", ""}, []string{"b", "a"}, []string{"a"})
	checkTwo(t, []string{"a", "A", "aa"}, []string{"a", "a ", "aaa", "b"}, []string{"a"})
	checkTwo(t, []string{"a b"}, []string{"a", "b"}, nil)
	checkTwo(t, numbered(300), numbered(200), numbered(200))
	checkTwo(t, numbered(300)[100:], numbered(200), numbered(200)[100:])
	for _, c := range []struct {
		a, b []string
		want bool
	}{
		{nil, nil, true}, {nil, []string{"a"}, true}, {[]string{}, none(), true}, {[]string{"a"}, nil, false}, {none(), nil, true}, {none(), []string{"a"}, true},
		{[]string{"a"}, none(), false}, {[]string{"a", ""}, []string{"b", "a"}, true}, {[]string{"c"}, []string{"b", "a"}, false},
		{[]string{"a", "b"}, []string{"b", "a"}, true}, {[]string{"a", "a", "a"}, []string{"a"}, true}, {[]string{"a"}, []string{"a", "a"}, true},
		{[]string{"a", "b"}, []string{"a"}, false}, {[]string{"b", "a"}, []string{"a"}, false}, {[]string{"a"}, []string{"aa", "A"}, false}, {[]string{"aa"}, []string{"a"}, false},
		{[]string{"a b"}, []string{"c"}, true}, {[]string{strings.Repeat("a", 65)}, nil, true}, {[]string{strings.Repeat("a", 64)}, nil, false},
		{numbered(200), numbered(300), true}, {numbered(300), numbered(299), false}, {numbered(300)[1:], numbered(299), false},
	} {
		if got := scope.Within(c.a, c.b); got != c.want {
			t.Errorf("Within(%.60q, %.60q): %t", c.a, c.b, got)
		}
	}
}

// TestAllSets is of P6.3 and P6.4: all lists of a few words against each other.
func TestAllSets(t *testing.T) {
	words := []string{"e", "", "b", "a", `"`, "d", "c"}
	of := func(bits int) []string {
		var l []string
		for i, w := range words {
			if bits>>i&1 == 1 {
				l = append(l, w)
			}
		}
		return l
	}
	const all = 1 << 7
	for x := range all {
		for y := range all {
			a, b := of(x), of(y)
			checkTwo(t, a, b, set(of(x&y)))
			if got, want := scope.Both(a, b), set(of(x|y)); !slices.Equal(got, want) {
				t.Errorf("Both of %q and %q: %q", a, b, got)
			}
			if got, want := scope.Within(a, b), len(set(of(x&^y))) == 0; got != want {
				t.Errorf("Within(%q, %q): %t", a, b, got)
			}
			checkFollows(t, a, b)
		}
	}
}

// checkFollows asks P6.4 of two lists.
func checkFollows(t *testing.T, a, b []string) {
	t.Helper()
	own, other, common := scope.Set(a...), scope.Set(b...), scope.Meet(a, b)
	if scope.Within(a, b) != slices.Equal(common, own) || scope.Within(b, a) != slices.Equal(common, other) {
		t.Errorf("Within of %.60q and %.60q isn't whether they meet in the one", a, b)
	}
	if !scope.Within(common, a) || !scope.Within(common, b) {
		t.Errorf("what %.60q and %.60q have in common isn't within each: %.60q", a, b, common)
	}
	for _, l := range [][]string{own, other, common} {
		got, e := scope.Parse(scope.Print(l...))
		if len(l) <= 32 && (!slices.Equal(got, l) || e != api.OK) {
			t.Errorf("%.60q is printed, and parsed to %.60q, %d", l, got, e)
		}
	}
}

// TestSeveralLists is of P6.3: Both of no list, one, three and many.
func TestSeveralLists(t *testing.T) {
	check := func(want []string, lists ...[]string) {
		t.Helper()
		if got := scope.Both(lists...); !slices.Equal(got, want) {
			t.Errorf("Both of %.80q: %.80q, not %.80q", lists, got, want)
		}
	}
	check(nil)
	check(nil, nil)
	check(nil, []string{}, nil, []string{})
	check(nil, none(), []string{""}, none())
	check([]string{"a", "b"}, []string{"b", "a", "b", ""})
	check([]string{"a", "b", "c"}, []string{"c"}, []string{"b"}, []string{"a"})
	check([]string{"a", "b", "c"}, []string{"c", "a"}, nil, []string{"b", "a", " "})
	check([]string{"a"}, []string{"a"}, []string{"a"}, []string{"a"})
	check([]string{"a", "b", "c"}, nil, nil, []string{"b", "c"}, none(), []string{"a", "c"})
	check(numbered(300), numbered(200), numbered(100), numbered(300), numbered(150))
	var lists [][]string
	for i := range 999 {
		lists = append(lists, numbered(999)[998-i:999-i])
	}
	check(numbered(999), lists...)
	check(numbered(999)[500:], lists[:499]...)
}

// TestFollows is of P6.4: sets by chance, of at most 32 words and of more, are printed and parsed, and meet.
func TestFollows(t *testing.T) {
	for n := range 33 {
		for _, l := range [][]string{numbered(n), wide(n)} {
			checkParse(t, scope.Print(l...), l, api.OK)
			slices.Reverse(l)
			checkFollows(t, l, l[n/2:])
		}
	}
	checkParse(t, scope.Print(numbered(33)...), nil, api.ErrLong)
	checkParse(t, scope.Print(wide(300)...), nil, api.ErrLong)
	chance := rand.New(rand.NewSource(2))
	for n := range 70 {
		for range 25 {
			a, b := chancy(chance, n), chancy(chance, 1+chance.Intn(70))
			checkTwo(t, a, b, meet(a, b))
			checkFollows(t, a, b)
			checkFollows(t, a, scope.Both(b, a))
			l := []string{strings.Join(a, " "), printed(a), printed(a) + " " + printed(b)}
			for _, s := range l {
				checkParsed(t, s)
			}
		}
	}
}

// shared tells whether two texts share memory.
func shared(a, b string) bool {
	if a == "" || b == "" {
		return false
	}
	one, two := uintptr(unsafe.Pointer(unsafe.StringData(a))), uintptr(unsafe.Pointer(unsafe.StringData(b)))
	return one < two+uintptr(len(b)) && two < one+uintptr(len(a))
}

// checkApart asks whether no text of an answer shares memory with another answer's, its own others, or what was handed in.
func checkApart(t *testing.T, what string, in []string, answers ...[]string) {
	t.Helper()
	var texts []string
	for _, l := range answers {
		for _, a := range l {
			if slices.ContainsFunc(slices.Concat(texts, in), func(b string) bool { return shared(a, b) }) {
				t.Errorf("%s: %.40q shares memory with another text", what, a)
			}
			texts = append(texts, a)
		}
	}
}

// answers are what all calls answer to lists, as lists.
func answers(a, b []string) [][]string {
	text := strings.Join(append(slices.Clone(a), b...), " ")
	l, _ := scope.Parse(text)
	return [][]string{scope.Set(a...), scope.Set(b...), scope.Meet(a, b), scope.Meet(b, a), scope.Both(a), scope.Both(a, b), scope.Both(a, b, a), {scope.Print(a...)}, {scope.Print(b...)}, l}
}

// TestNewMemory is of P6.5: answers share no memory with what was handed in, nor with other answers, nor within themselves.
func TestNewMemory(t *testing.T) {
	for _, two := range [][2][]string{{{}, {"a"}}, {{"a"}, {"a"}}, {{"b", "a", "b"}, {"a"}}, {{"abc", "def"}, {"def", "", "x"}}, {wide(4), wide(6)}, {numbered(9), wide(9)}} {
		a, b := two[0], two[1]
		checkApart(t, "calls", slices.Concat(a, b), append(answers(a, b), answers(a, b)...)...)
		one, again := answers(a, b), answers(a, b)
		for i, l := range one {
			was := slices.Clone(again[i])
			clear(l[:cap(l)])
			if !slices.Equal(again[i], was) || !slices.Equal(answers(a, b)[i], was) {
				t.Errorf("%.40q and %.40q: two answers share their list, way %d", a, b, i)
			}
		}
	}
	whole := "ab ab cd e " + strings.Join(wide(3), " ")
	for n := range len(whole) + 1 {
		one, _ := scope.Parse(whole[:n])
		two, _ := scope.Parse(whole[:n])
		checkApart(t, "Parse", []string{whole}, one, two)
		was := slices.Clone(two)
		clear(one[:cap(one)])
		if !slices.Equal(two, was) {
			t.Errorf("Parse(%q): two answers share their list", whole[:n])
		}
	}
}

// TestNothingChanged is of P6.5: lists and bytes that are handed in stay, and those behind their end; asked again, the answers are the same.
func TestNothingChanged(t *testing.T) {
	chance := rand.New(rand.NewSource(3))
	for _, n := range []int{1, 2, 3, 10, 40} {
		room := append(chancy(chance, n), "z", "y", "", "x")
		was := slices.Clone(room)
		lists := make([][]string, 5, 8)
		for i := range lists[:cap(lists)] {
			lists[:cap(lists)][i] = room[i%len(room):]
		}
		for end := range len(room) + 1 {
			for from := range end + 1 {
				a, b := room[:end], room[from:end]
				checkTwo(t, a, b, set(b))
				checkSet(t, b, set(b))
				one, two := answers(a, b), answers(a, b)
				for i := range one {
					if !slices.Equal(one[i], two[i]) {
						t.Errorf("asked again: %.60q, not %.60q", two[i], one[i])
					}
				}
				scope.Both(lists...)
				if !slices.Equal(room, was) {
					t.Fatalf("%q was changed to %q", was, room)
				}
			}
		}
		for i, l := range lists[:cap(lists)] {
			if len(l) != len(room)-i%len(room) || unsafe.SliceData(l) != &room[i%len(room)] {
				t.Fatalf("the list %d of Both was changed", i)
			}
		}
	}
	memory := []byte("b a b \" cc " + strings.Repeat("d", 66))
	kept := bytes.Clone(memory)
	for n := 1; n <= len(memory); n++ {
		s := unsafe.String(&memory[0], n)
		checkParsed(t, s)
		checkWord(t, s, form.MatchString(s))
		answers([]string{s, s}, []string{s})
		scope.Within([]string{s}, []string{s})
		if !bytes.Equal(memory, kept) {
			t.Fatalf("%q was changed to %q", kept, memory)
		}
	}
}

// TestNothingKept is of P6.5: what is written over behind a call doesn't tell in the next, nor in what was answered.
func TestNothingKept(t *testing.T) {
	memory := []byte("ab")
	s := unsafe.String(&memory[0], 2)
	l := []string{s, "c"}
	was := answers(l, []string{s})
	memory[0] = 'x'
	l[1] = "y"
	for i, want := range [][]string{{"ab", "c"}, {"ab"}, {"ab"}, {"ab"}, {"ab", "c"}, {"ab", "c"}, {"ab", "c"}, {"ab c"}, {"ab"}, {"ab", "c"}} {
		if !slices.Equal(was[i], want) {
			t.Errorf("an answer changes, way %d: %q", i, was[i])
		}
	}
	checkSet(t, l, []string{"xb", "y"})
	checkTwo(t, l, []string{"ab", "c"}, nil)
	checkParse(t, "a b", []string{"a", "b"}, api.OK)
	checkParse(t, "a \"", nil, api.ErrForm)
	checkParse(t, "c", []string{"c"}, api.OK)
}

// TestEnds is of P1: long texts and long lists are answered.
func TestEnds(t *testing.T) {
	long := strings.Repeat("a", 1<<24)
	checkWord(t, long, false)
	checkParse(t, long, nil, api.ErrLong)
	checkParse(t, strings.Repeat(" ", 1<<24), nil, api.ErrLong)
	checkSet(t, slices.Repeat([]string{long, "b"}, 1<<14), []string{"b"})
	checkSet(t, make([]string, 1<<20), nil)
	many := make([]string, 1<<15)
	for i := range many {
		many[i] = fmt.Sprintf("%06d", i)
	}
	checkSet(t, many, many)
	checkTwo(t, many[1:], many, many[1:])
	if l := scope.Both(make([][]string, 1<<20)...); len(l) != 0 {
		t.Errorf("Both of many lists: %d words", len(l))
	}
	chance := rand.New(rand.NewSource(4))
	for range 20000 {
		b := make([]byte, chance.Intn(60))
		chance.Read(b)
		checkParsed(t, string(b))
		scope.Print(string(b), string(b))
	}
}
